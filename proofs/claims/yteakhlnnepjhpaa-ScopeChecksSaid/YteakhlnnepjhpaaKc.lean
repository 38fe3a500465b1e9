/- Texts of one proof behind one another: PrM, PrR, PrS, PrT, PrK, PrE. -/
import Derived.Test.YteakhlnnepjhpaaKa
import Derived.BigRegion
import Derived.Handy
/- The document's parser, plain: what scriptoriumref14's Script answers, as functions of the tokens. No program is named. -/
set_option linter.unusedVariables false
namespace Go.Proofs.Yteakhlnnepjhpaa.PrM
/-- Trees: rows (nil, cons), expressions, functions, statements, a block as an element of a row. -/
inductive X
 | nil
 | cons (h t : X)
 | e (kind at_ n : Int) (s : ByteArray) (op : Int) (l f : X)
 | f (ps : List ByteArray) (body : X)
 | s (kind at_ : Int) (names : List ByteArray) (l blocks : X)
 | blk (l : X)
def X.len : X → Nat
 | .cons _ t => t.len + 1
 | _ => 0
/-- One more at the end of a row. -/
def X.snoc : X → X → X
 | .cons h t, x => .cons h (t.snoc x)
 | _, x => .cons x .nil
def X.one (x : X) : X := .cons x .nil
def X.two (x y : X) : X := .cons x (.cons y .nil)
theorem X.len_one (x : X) : (X.one x).len = 1 := rfl
theorem X.len_two (x y : X) : (X.two x y).len = 2 := rfl
/-- Rows alone. -/
def X.isRow : X → Prop
 | .nil => True
 | .cons _ t => t.isRow
 | _ => False
theorem X.len_snoc : ∀ x y : X, (x.snoc y).len = x.len + 1
 | .cons h t, y => by show (t.snoc y).len + 1 = t.len + 1 + 1; rw [X.len_snoc t y]
 | .nil, _ => rfl
 | .e .., _ => rfl
 | .f .., _ => rfl
 | .s .., _ => rfl
 | .blk _, _ => rfl
def E0 : X := .e 0 0 0 ⟨#[]⟩ 0 .nil .nil
/-- Where the parser stands, its first error. -/
structure St where
 i : Nat
 code : Int
 at_ : Int
/-- A parser's tokens: the end is the last one and no other. -/
def Good (T : List LxM.T) : Prop := 0 < T.length ∧ ∀ j (h : j < T.length), (T[j].kind = 0 ↔ j + 1 = T.length)
section
variable (T : List LxM.T)
def tk (st : St) : LxM.T := T.getD st.i ⟨0, [], 0, 0⟩
def place (st : St) : Int := ((tk T st).at_ : Int)
def fail (c : Int) (st : St) : St := if st.code = 0 then ⟨st.i, c, place T st⟩ else st
def is (x : ByteArray) (st : St) : Bool := decide (st.code = 0) && ((decide ((tk T st).kind = 1) || decide ((tk T st).kind = 5)) && decide ((tk T st).text = x.data.toList))
def up (st : St) : St := { st with i := st.i + 1 }
def opt (x : ByteArray) (st : St) : St := if is T x st then up st else st
def take (x : ByteArray) (st : St) : St := if is T x st then up st else fail T 14 st
def nameT (st : St) : ByteArray := if st.code = 0 ∧ (tk T st).kind = 2 then ⟨(tk T st).text.toArray⟩ else ⟨#[]⟩
def nameS (st : St) : St := if st.code = 0 then (if (tk T st).kind = 2 then up st else fail T 14 st) else st
def deep (d : Int) (st : St) : St := if 100 < d then fail T 8 st else st
def full (n m : Int) (st : St) : St := if m ≤ n then fail T 8 st else st
def ends (st : St) : Bool := decide (st.code ≠ 0) || (decide ((tk T st).kind = 0) || (is T ⟨#[101, 110, 100]⟩ st || (is T ⟨#[101, 108, 115, 101]⟩ st || (is T ⟨#[101, 108, 115, 101, 105, 102]⟩ st || is T ⟨#[117, 110, 116, 105, 108]⟩ st))))
/-- The parser's functions at one depth of calls. -/
structure Fs where
 exp : Int → St → X × St
 level : Nat → Int → St → X × St
 join : Int → St → X × St
 unary : Int → St → X × St
 post : Int → St → X × St
 behind : X → Int → St → X × St
 table : Int → Int → St → X × St
 body : Int → St → X × St
 block : Int → St → X × St
 stat : X → Int → St → X × St
/-- The signs of a level, with what they make. -/
def ops : Nat → List (ByteArray × Int)
 | 0 => [(⟨#[111, 114]⟩, 0)]
 | 1 => [(⟨#[97, 110, 100]⟩, 0)]
 | 2 => [(⟨#[61, 61]⟩, 7), (⟨#[126, 61]⟩, 8), (⟨#[60]⟩, 9), (⟨#[60, 61]⟩, 10), (⟨#[62]⟩, 11), (⟨#[62, 61]⟩, 12)]
 | 4 => [(⟨#[43]⟩, 1), (⟨#[45]⟩, 2)]
 | 5 => [(⟨#[42]⟩, 3), (⟨#[47, 47]⟩, 4), (⟨#[37]⟩, 5)]
 | _ => []
def pick (st : St) (l : List (ByteArray × Int)) : Option Int := (l.find? fun o => is T o.1 st).map (·.2)
def kindOf (n : Nat) : Int := if n = 0 then 16 else if n = 1 then 15 else 14
def levelL (nx : St → X × St) (n : Nat) : Nat → X → St → X × St
 | 0, a, st => (a, st)
 | k + 1, a, st =>
  match pick T st (ops n) with
  | none => (a, st)
  | some c => levelL nx n k (.e (kindOf n) (place T st) 0 ⟨#[]⟩ c (X.two a (nx (up st)).1) .nil) (nx (up st)).2
/-- The arguments of a call. -/
def argsL (ex : St → X × St) : Nat → X → St → X × St
 | 0, l, st => (l, st)
 | k + 1, l, st =>
  if st.code = 0 then
   (fun r : X × St => if is T ⟨#[44]⟩ r.2 then argsL ex k (l.snoc r.1) (up r.2) else (l.snoc r.1, r.2)) (ex (full T ((l.len : Int) - 1) 16 st))
  else (l, st)
def behindL (ex : St → X × St) (N : Nat) : Nat → X → St → X × St
 | 0, e, st => (e, st)
 | k + 1, e, st =>
  if st.code = 0 then
   if is T ⟨#[46]⟩ st then behindL ex N k (.e 9 (place T st) 0 ⟨#[]⟩ 0 (X.two e (.e 5 (place T (up st)) 0 (nameT T (up st)) 0 .nil .nil)) .nil) (nameS T (up st))
   else if is T ⟨#[91]⟩ st then behindL ex N k (.e 9 (place T st) 0 ⟨#[]⟩ 0 (X.two e (ex (up st)).1) .nil) (take T ⟨#[93]⟩ (ex (up st)).2)
   else if is T ⟨#[40]⟩ st then
    (if is T ⟨#[41]⟩ (up st) then behindL ex N k (.e 10 (place T st) 0 ⟨#[]⟩ 0 (X.one e) .nil) (up (up st))
    else (fun r : X × St => behindL ex N k (.e 10 (place T st) 0 ⟨#[]⟩ 0 r.1 .nil) (take T ⟨#[41]⟩ r.2)) (argsL T ex N (X.one e) (up st)))
   else (e, st)
  else (e, st)
/-- The fields of a table. -/
def tableL (ex : St → X × St) : Nat → X → Int → St → X × St
 | 0, l, n, st => (l, st)
 | k + 1, l, n, st =>
  if st.code = 0 ∧ is T ⟨#[125]⟩ st = false then
   (fun st1 : St =>
    (fun r : X × Int × St =>
     (fun v : X × St =>
      (fun st3 : St =>
       if is T ⟨#[44]⟩ st3 then tableL ex k ((l.snoc r.1).snoc v.1) r.2.1 (up st3)
       else if is T ⟨#[59]⟩ st3 then tableL ex k ((l.snoc r.1).snoc v.1) r.2.1 (up st3)
       else ((l.snoc r.1).snoc v.1, st3)) v.2) (ex r.2.2))
    (if st1.code ≠ 0 then (.e 0 (place T st1) 0 ⟨#[]⟩ 1 .nil .nil, n, st1)
    else if is T ⟨#[91]⟩ st1 then ((ex (up st1)).1, n, take T ⟨#[61]⟩ (take T ⟨#[93]⟩ (ex (up st1)).2))
    else if (tk T st1).kind = 2 ∧ (tk T (up st1)).kind = 5 ∧ (tk T (up st1)).text = [61] then (.e 5 (place T st1) 0 (nameT T st1) 1 .nil .nil, n, take T ⟨#[61]⟩ (nameS T st1))
    else (.e 4 (place T st1) (n + 1) ⟨#[]⟩ 1 .nil .nil, n + 1, st1))) (full T (((l.len / 2 : Nat)) : Int) 64 st)
  else (l, st)
def paramsL : Nat → List ByteArray → St → List ByteArray × St
 | 0, ps, st => (ps, st)
 | k + 1, ps, st =>
  if st.code = 0 then
   (fun st1 : St => if is T ⟨#[44]⟩ (nameS T st1) then paramsL k (ps ++ [nameT T st1]) (up (nameS T st1)) else (ps ++ [nameT T st1], nameS T st1)) (full T (ps.length : Int) 16 st)
  else (ps, st)
/-- The statements of a block. -/
def blockL (g : Fs) (d : Int) : Nat → X → St → X × St
 | 0, l, st => (l, st)
 | k + 1, l, st =>
  if ends T st then (l, st)
  else if is T ⟨#[114, 101, 116, 117, 114, 110]⟩ st then
   (fun r : X × St =>
    (fun st2 : St => (l.snoc (.s 10 (place T st) [] r.1 .nil), if ends T st2 then st2 else fail T 14 st2)) (opt T ⟨#[59]⟩ r.2))
   (if ends T (up st) = false ∧ is T ⟨#[59]⟩ (up st) = false then (X.one (g.exp d (up st)).1, (g.exp d (up st)).2) else (.nil, up st))
  else
   (fun r : X × St => blockL g d k (l.snoc r.1) (opt T ⟨#[59]⟩ r.2)) (g.stat (.s 0 (place T st) [] .nil .nil) d st)
/-- The ways of an if. -/
def ifL (g : Fs) (d : Int) : Nat → X → X → St → X × X × St
 | 0, l, b, st => (l, b, st)
 | k + 1, l, b, st =>
  (fun r : X × St =>
   (fun q : X × St =>
    if is T ⟨#[101, 108, 115, 101, 105, 102]⟩ q.2 then ifL g d k (l.snoc r.1) (b.snoc (.blk q.1)) (up q.2) else (l.snoc r.1, b.snoc (.blk q.1), q.2)) (g.block d (take T ⟨#[116, 104, 101, 110]⟩ r.2))) (g.exp d st)
def X.kind : X → Int
 | .e k .. => k
 | _ => 0
/-- What a statement's word makes of it (a statement of a block d deep). -/
def statS (g : Fs) (d : Int) (a : Int) (st : St) : X × St :=
 if is T ⟨#[108, 111, 99, 97, 108]⟩ st then
  if is T ⟨#[102, 117, 110, 99, 116, 105, 111, 110]⟩ (up st) then
   (fun st2 : St =>
    (fun r : X × St => (.s 12 a [nameT T (up (up st))] (X.one (.e 7 (place T st2) 0 ⟨#[]⟩ 0 .nil (X.one r.1))) .nil, r.2)) (g.body d st2)) (nameS T (up (up st)))
  else
   (fun st2 : St =>
    if is T ⟨#[61]⟩ st2 then (.s 1 a [nameT T (up st)] (X.one (g.exp d (up st2)).1) .nil, (g.exp d (up st2)).2) else (.s 1 a [nameT T (up st)] .nil .nil, st2)) (nameS T (up st))
 else if is T ⟨#[105, 102]⟩ st then
  (fun r : X × X × St =>
   if is T ⟨#[101, 108, 115, 101]⟩ r.2.2 then (.s 4 a [] r.1 (r.2.1.snoc (.blk (g.block d (up r.2.2)).1)), take T ⟨#[101, 110, 100]⟩ (g.block d (up r.2.2)).2)
   else (.s 4 a [] r.1 r.2.1, take T ⟨#[101, 110, 100]⟩ r.2.2)) (ifL T g d T.length .nil .nil (up st))
 else if is T ⟨#[119, 104, 105, 108, 101]⟩ st then
  (fun r : X × St =>
   (fun q : X × St => (.s 5 a [] (X.one r.1) (X.one (.blk q.1)), take T ⟨#[101, 110, 100]⟩ q.2)) (g.block d (take T ⟨#[100, 111]⟩ r.2))) (g.exp d (up st))
 else if is T ⟨#[114, 101, 112, 101, 97, 116]⟩ st then
  (fun q : X × St =>
   (fun r : X × St => (.s 8 a [] (X.one r.1) (X.one (.blk q.1)), r.2)) (g.exp d (take T ⟨#[117, 110, 116, 105, 108]⟩ q.2))) (g.block d (up st))
 else if is T ⟨#[102, 111, 114]⟩ st then
  (fun st1 : St =>
   (fun h : Int × List ByteArray × X × St =>
    (fun q : X × St => (.s h.1 a h.2.1 h.2.2.1 (X.one (.blk q.1)), take T ⟨#[101, 110, 100]⟩ q.2)) (g.block d (take T ⟨#[100, 111]⟩ h.2.2.2)))
   (if is T ⟨#[44]⟩ st1 then
    (fun st2 : St => (fun r : X × St => ((7 : Int), [nameT T (up st), nameT T (up st1)], X.one r.1, r.2)) (g.exp d (take T ⟨#[105, 110]⟩ st2))) (nameS T (up st1))
   else
    (fun r : X × St =>
     (fun q : X × St =>
      if is T ⟨#[44]⟩ q.2 then ((6 : Int), [nameT T (up st)], ((X.one r.1).snoc q.1).snoc (g.exp d (up q.2)).1, (g.exp d (up q.2)).2) else ((6 : Int), [nameT T (up st)], (X.one r.1).snoc q.1, q.2)) (g.exp d (take T ⟨#[44]⟩ r.2))) (g.exp d (take T ⟨#[61]⟩ st1)))) (nameS T (up st))
 else if is T ⟨#[98, 114, 101, 97, 107]⟩ st then (.s 9 a [] .nil .nil, up st)
 else if is T ⟨#[100, 111]⟩ st then
  (fun q : X × St => (.s 11 a [] .nil (X.one (.blk q.1)), take T ⟨#[101, 110, 100]⟩ q.2)) (g.block d (up st))
 else
  (fun r : X × St =>
   if r.1.kind = 10 ∧ is T ⟨#[61]⟩ r.2 = false then (.s 3 a [] (X.one r.1) .nil, r.2)
   else
    (fun st2 : St => (fun q : X × St => (.s 2 a [] (X.two r.1 q.1) .nil, q.2)) (g.exp d (take T ⟨#[61]⟩ st2))) (if r.1.kind = 10 then fail T 14 r.2 else r.2)) (g.behind (.e 6 (place T st) 0 (nameT T st) 0 .nil .nil) d (nameS T st))
def postS (g : Fs) (d : Int) (st : St) : X × St :=
 if st.code ≠ 0 then (E0, st)
 else if (tk T st).kind = 2 then g.behind (.e 6 (place T st) 0 ⟨(tk T st).text.toArray⟩ 0 .nil .nil) d (up st)
 else if is T ⟨#[40]⟩ st then (fun r : X × St => g.behind r.1 d (take T ⟨#[41]⟩ r.2)) (g.exp d (up st))
 else if (tk T st).kind = 3 then (.e 4 (place T st) (tk T st).n ⟨#[]⟩ 0 .nil .nil, up st)
 else if (tk T st).kind = 4 then (.e 5 (place T st) 0 ⟨(tk T st).text.toArray⟩ 0 .nil .nil, up st)
 else if is T ⟨#[110, 105, 108]⟩ st then (.e 1 (place T st) 0 ⟨#[]⟩ 0 .nil .nil, up st)
 else if is T ⟨#[116, 114, 117, 101]⟩ st then (.e 2 (place T st) 0 ⟨#[]⟩ 0 .nil .nil, up st)
 else if is T ⟨#[102, 97, 108, 115, 101]⟩ st then (.e 3 (place T st) 0 ⟨#[]⟩ 0 .nil .nil, up st)
 else if is T ⟨#[102, 117, 110, 99, 116, 105, 111, 110]⟩ st then (fun r : X × St => (.e 7 (place T st) 0 ⟨#[]⟩ 0 .nil (X.one r.1), r.2)) (g.body d (up st))
 else if is T ⟨#[123]⟩ st then g.table (place T st) d (up st)
 else (E0, fail T 14 st)
def unK (st : St) : Int := if is T ⟨#[110, 111, 116]⟩ st then 11 else if is T ⟨#[45]⟩ st then 12 else if is T ⟨#[35]⟩ st then 13 else 0
def unaryS (g : Fs) (d : Int) (st : St) : X × St :=
 if unK T st = 0 then g.post d st
 else (fun st2 : St => if st2.code ≠ 0 then (E0, st2) else (fun r : X × St => (.e (unK T st) (place T st) 0 ⟨#[]⟩ 0 (X.one r.1) .nil, r.2)) (g.unary (d + 1) st2)) (deep T (d + 1) (up st))
def joinS (g : Fs) (d : Int) (st : St) : X × St :=
 (fun a : X × St =>
  if is T ⟨#[46, 46]⟩ a.2 then
   (fun st2 : St => if st2.code ≠ 0 then (a.1, st2) else (fun r : X × St => (.e 14 (place T a.2) 0 ⟨#[]⟩ 6 (X.two a.1 r.1) .nil, r.2)) (g.join (d + 1) st2)) (deep T (d + 1) (up a.2))
  else a) (g.level 4 d st)
def levelS (g : Fs) (n : Nat) (d : Int) (st : St) : X × St :=
 if st.code ≠ 0 then (E0, st)
 else if n = 3 then g.join d st
 else if n = 6 then g.unary d st
 else levelL T (g.level (n + 1) d) n T.length (g.level (n + 1) d st).1 (g.level (n + 1) d st).2
def bodyS (g : Fs) (d : Int) (st : St) : X × St :=
 (fun p : List ByteArray × St => (fun q : X × St => (.f p.1 q.1, take T ⟨#[101, 110, 100]⟩ q.2)) (g.block d p.2))
 ((fun st1 : St => if is T ⟨#[41]⟩ st1 then ([], up st1) else (fun r : List ByteArray × St => (r.1, take T ⟨#[41]⟩ r.2)) (paramsL T T.length [] st1)) (take T ⟨#[40]⟩ st))
def fs : Nat → Fs
 | 0 => ⟨fun _ st => (E0, st), fun _ _ st => (E0, st), fun _ st => (E0, st), fun _ st => (E0, st), fun _ st => (E0, st), fun e _ st => (e, st), fun _ _ st => (E0, st), fun _ st => (.f [] .nil, st), fun _ st => (.nil, st), fun s _ st => (s, st)⟩
 | F + 1 =>
  {exp := fun d st => (fs F).level 0 (d + 1) (deep T (d + 1) st)
   level := fun n d st => levelS T (fs F) n d st
   join := fun d st => joinS T (fs F) d st
   unary := fun d st => unaryS T (fs F) d st
   post := fun d st => postS T (fs F) d st
   behind := fun e d st => behindL T ((fs F).exp d) T.length T.length e st
   table := fun a d st => (fun r : X × St => (.e 8 a 0 ⟨#[]⟩ 0 r.1 .nil, take T ⟨#[125]⟩ r.2)) (tableL T ((fs F).exp d) T.length .nil 0 st)
   body := fun d st => bodyS T (fs F) d st
   block := fun d st => blockL T (fs F) (d + 1) T.length .nil (deep T (d + 1) st)
   stat := fun s d st => statS T (fs F) d (match s with | .s _ a .. => a | _ => 0) st }
/-- 16.2: what Script answers: the statements, or the first error. -/
def script : X × St :=
 (fun r : X × St => (r.1, if r.2.code = 0 ∧ (tk T r.2).kind ≠ 0 then fail T 14 r.2 else r.2)) ((fs T 12000).block 0 ⟨0, 0, 0⟩)
end
end Go.Proofs.Yteakhlnnepjhpaa.PrM
/- Trees in memory: what a slice of expressions, functions, statements reads as. -/
namespace Go.Proofs.Yteakhlnnepjhpaa
open Go.RowKit PrM
set_option linter.unusedVariables false
/-- A slice that reads as texts; its row lies in blocks of P. -/
def Strs (w : World) (P : Nat → Prop) (v : Value) (l : List ByteArray) : Prop := ∃ A c, v = .slice A l.length c ∧ (A = none → c = 0) ∧ l.length ≤ c ∧ ∀ i (h : i < l.length), ∃ p : Addr, A = some p ∧ P p.block ∧ p.block < w.heap.size ∧ w.cell? (p.add i) = some (.string l[i])
/-- What a tree's parts say of memory: cells of an element; a row at an address from an offset on; a row's cells in a list. -/
structure RdP where
 cells : Array Value → Prop
 row : Nat → Option Addr → Nat → Prop
 own : Nat → List Value → Prop
def Sl (n : Nat) (r : Nat → Option Addr → Nat → Prop) (z : Nat) (v : Value) : Prop := ∃ A c, v = .slice A n c ∧ (A = none → c = 0) ∧ n ≤ c ∧ r z A 0
def Rd (w : World) (P : Nat → Prop) : X → RdP
 | .nil => ⟨fun _ => False, fun _ _ _ => True, fun _ l => l = []⟩
 | .cons h t => ⟨fun _ => False,
   fun z A off => (∃ (p : Addr) (cs : Array Value), A = some p ∧ P p.block ∧ p.block < w.heap.size ∧ cs.size = z ∧ (∀ j u, cs[j]? = some u → w.cell? (p.add (off + j)) = some u) ∧ (Rd w P h).cells cs) ∧ (Rd w P t).row z A (off + z),
   fun z l => ∃ (cs : Array Value) (r : List Value), l = cs.toList ++ r ∧ cs.size = z ∧ (Rd w P h).cells cs ∧ (Rd w P t).own z r⟩
 | .e k a n s op l f => ⟨fun cs => ∃ vl vf, cs = #[.int .i64 k, .int .i64 a, .int .i64 n, .string s, .int .i64 op, vl, vf] ∧ Sl l.len (Rd w P l).row 7 vl ∧ Sl f.len (Rd w P f).row 2 vf, fun _ _ _ => False, fun _ _ => False⟩
 | .f ps b => ⟨fun cs => ∃ vp vb, cs = #[vp, vb] ∧ Strs w P vp ps ∧ Sl b.len (Rd w P b).row 5 vb, fun _ _ _ => False, fun _ _ => False⟩
 | .s k a ns l b => ⟨fun cs => ∃ vn vl vb, cs = #[.int .i64 k, .int .i64 a, vn, vl, vb] ∧ Strs w P vn ns ∧ Sl l.len (Rd w P l).row 7 vl ∧ Sl b.len (Rd w P b).row 1 vb, fun _ _ _ => False, fun _ _ => False⟩
 | .blk l => ⟨fun cs => ∃ v, cs = #[v] ∧ Sl l.len (Rd w P l).row 5 v, fun _ _ _ => False, fun _ _ => False⟩
/-- Memory has grown, and what is read has stayed. -/
structure Moves (w w' : World) (P Q : Nat → Prop) : Prop where
 size : w.heap.size ≤ w'.heap.size
 cell : ∀ p : Addr, P p.block → p.block < w.heap.size → w'.cell? p = w.cell? p
 wide : ∀ k, P k → k < w.heap.size → Q k
section
variable {w w' : World} {P Q : Nat → Prop}
theorem Moves.of_only {F : Nat → Prop} (h : Only F w w') (hF : ∀ k, P k → k < w.heap.size → ¬ F k) (hQ : ∀ k, P k → k < w.heap.size → Q k) : Moves w w' P Q :=
 ⟨h.size, fun p hp hl => World.cell?_of_block (h.block p.block hl (hF _ hp hl)), hQ⟩
theorem Moves.of_below (h : Below w.heap.size w w') (hQ : ∀ k, P k → k < w.heap.size → Q k) : Moves w w' P Q :=
 ⟨h.size, fun p _ hl => World.cell?_of_block (h.block p.block hl), hQ⟩
theorem Strs.move (m : Moves w w' P Q) {v : Value} {l : List ByteArray} (h : Strs w P v l) : Strs w' Q v l := by
 obtain ⟨A, c, e, hA, hc, hr⟩ := h
 refine ⟨A, c, e, hA, hc, fun i hi => ?_⟩
 obtain ⟨p, ep, hp, hl, hcell⟩ := hr i hi
 exact ⟨p, ep, m.wide _ hp hl, Nat.lt_of_lt_of_le hl m.size, by rw [m.cell _ (by rw [add_block]; exact hp) (by rw [add_block]; exact hl)]; exact hcell⟩
theorem Sl.imp {n z : Nat} {r r' : Nat → Option Addr → Nat → Prop} (k : ∀ z A off, r z A off → r' z A off) {v : Value} (h : Sl n r z v) : Sl n r' z v := by
 obtain ⟨A, c, e, hA, hc, hr⟩ := h
 exact ⟨A, c, e, hA, hc, k _ _ _ hr⟩
theorem Rd.move (m : Moves w w' P Q) (x : X) : (∀ cs, (Rd w P x).cells cs → (Rd w' Q x).cells cs) ∧ (∀ z A off, (Rd w P x).row z A off → (Rd w' Q x).row z A off) ∧ (∀ z l, (Rd w P x).own z l → (Rd w' Q x).own z l) := by
 induction x with
 | nil => exact ⟨fun _ h => h, fun _ _ _ h => h, fun _ _ h => h⟩
 | cons h t ih1 ih2 =>
  refine ⟨fun _ h => h, fun z A off k => ?_, fun z l k => ?_⟩
  ·obtain ⟨⟨p, cs, e, hp, hl, hz, hc, hd⟩, hr⟩ := k
   exact ⟨⟨p, cs, e, m.wide _ hp hl, Nat.lt_of_lt_of_le hl m.size, hz, fun j u hu => by rw [m.cell _ (by rw [add_block]; exact hp) (by rw [add_block]; exact hl)]; exact hc j u hu, ih1.1 _ hd⟩, ih2.2.1 _ _ _ hr⟩
  ·obtain ⟨cs, r, e, hz, hd, hr⟩ := k
   exact ⟨cs, r, e, hz, ih1.1 _ hd, ih2.2.2 _ _ hr⟩
 | e k a n s op l f ih1 ih2 =>
  refine ⟨fun cs h => ?_, fun _ _ _ h => h, fun _ _ h => h⟩
  obtain ⟨vl, vf, e, h1, h2⟩ := h
  exact ⟨vl, vf, e, h1.imp ih1.2.1, h2.imp ih2.2.1⟩
 | f ps b ih =>
  refine ⟨fun cs h => ?_, fun _ _ _ h => h, fun _ _ h => h⟩
  obtain ⟨vl, vf, e, h1, h2⟩ := h
  exact ⟨vl, vf, e, h1.move m, h2.imp ih.2.1⟩
 | s k a ns l b ih1 ih2 =>
  refine ⟨fun cs h => ?_, fun _ _ _ h => h, fun _ _ h => h⟩
  obtain ⟨vn, vl, vf, e, h0, h1, h2⟩ := h
  exact ⟨vn, vl, vf, e, h0.move m, h1.imp ih1.2.1, h2.imp ih2.2.1⟩
 | blk l ih =>
  refine ⟨fun cs h => ?_, fun _ _ _ h => h, fun _ _ h => h⟩
  obtain ⟨v, e, h1⟩ := h
  exact ⟨v, e, h1.imp ih.2.1⟩
/-- Cells of an element are one cell each. -/
theorem Sl.oneCell {n z : Nat} {r : Nat → Option Addr → Nat → Prop} {v : Value} (h : Sl n r z v) : v.oneCell' = true := by
 obtain ⟨A, c, rfl, -⟩ := h
 rfl
theorem Strs.oneCell {v : Value} {l : List ByteArray} (h : Strs w P v l) : v.oneCell' = true := by
 obtain ⟨A, c, rfl, -⟩ := h
 rfl
theorem Rd.one_cells (x : X) (cs : Array Value) (h : (Rd w P x).cells cs) : ∀ u ∈ cs.toList, u.oneCell' = true := by
 cases x with
 | nil => exact h.elim
 | cons _ _ => exact h.elim
 | e k a n s op l f =>
  obtain ⟨vl, vf, rfl, h1, h2⟩ := h
  intro u hu
  simp at hu
  rcases hu with rfl | rfl | rfl | rfl | rfl | rfl | rfl
  ·rfl
  ·rfl
  ·rfl
  ·rfl
  ·rfl
  ·exact h1.oneCell
  ·exact h2.oneCell
 | f ps b =>
  obtain ⟨vl, vf, rfl, h1, h2⟩ := h
  intro u hu
  simp at hu
  rcases hu with rfl | rfl
  ·exact h1.oneCell
  ·exact h2.oneCell
 | s k a ns l b =>
  obtain ⟨vn, vl, vf, rfl, h0, h1, h2⟩ := h
  intro u hu
  simp at hu
  rcases hu with rfl | rfl | rfl | rfl | rfl
  ·rfl
  ·rfl
  ·exact h0.oneCell
  ·exact h1.oneCell
  ·exact h2.oneCell
 | blk l =>
  obtain ⟨v, rfl, h1⟩ := h
  intro u hu
  simp at hu
  subst hu
  exact h1.oneCell
/-- A row's own cells, one more at the end. -/
theorem Rd.own_snoc : ∀ (x : X) (z : Nat) (ys : List Value) (y : X) (cs : Array Value), (Rd w P x).own z ys → (Rd w P y).cells cs → cs.size = z → (Rd w P (x.snoc y)).own z (ys ++ cs.toList)
 | .nil, z, ys, y, cs, h, hy, hz => by
  have h : ys = [] := h
  subst h
  exact ⟨cs, [], by simp, hz, hy, rfl⟩
 | .cons a t, z, ys, y, cs, h, hy, hz => by
  obtain ⟨c1, r, rfl, h1, h2, h3⟩ := h
  exact ⟨c1, r ++ cs.toList, by rw [List.append_assoc], h1, h2, Rd.own_snoc t z r y cs h3 hy hz⟩
 | .e .., _, _, _, _, h, _, _ => h.elim
 | .f .., _, _, _, _, h, _, _ => h.elim
 | .s .., _, _, _, _, h, _, _ => h.elim
 | .blk _, _, _, _, _, h, _, _ => h.elim
theorem Rd.own_len : ∀ (x : X) (z : Nat) (ys : List Value), (Rd w P x).own z ys → ys.length = x.len * z
 | .nil, z, ys, h => by have h : ys = [] := h; subst h; simp [X.len]
 | .cons a t, z, ys, h => by
  obtain ⟨c1, r, rfl, h1, h2, h3⟩ := h
  have := Rd.own_len t z r h3
  simp only [List.length_append, Array.length_toList, X.len, h1, this, Nat.add_mul]
  omega
 | .e .., _, _, h => h.elim
 | .f .., _, _, h => h.elim
 | .s .., _, _, h => h.elim
 | .blk _, _, _, h => h.elim
/-- A row whose cells stand in memory from an offset on. -/
theorem Rd.row_of : ∀ (x : X) (z : Nat) (p : Addr) (off : Nat) (ys : List Value), (Rd w P x).own z ys → P p.block → p.block < w.heap.size → (∀ j u, ys[j]? = some u → w.cell? (p.add (off + j)) = some u) → (Rd w P x).row z (some p) off
 | .nil, _, _, _, _, _, _, _, _ => trivial
 | .cons a t, z, p, off, ys, h, hp, hl, hc => by
  obtain ⟨c1, r, rfl, h1, h2, h3⟩ := h
  refine ⟨⟨p, c1, rfl, hp, hl, h1, fun j u hu => hc j u ?_, h2⟩, Rd.row_of t z p (off + z) r h3 hp hl fun j u hu => ?_⟩
  ·have hj : j < c1.size := (Array.getElem?_eq_some_iff.1 hu).1
   rw [List.getElem?_append_left (by simpa using hj)]
   simpa using hu
  ·have := hc (z + j) u (by rw [List.getElem?_append_right (by simp [h1]), Array.length_toList, h1, Nat.add_sub_cancel_left]; exact hu)
   rwa [← Nat.add_assoc] at this
 | .e .., _, _, _, _, h, _, _, _ => h.elim
 | .f .., _, _, _, _, h, _, _, _ => h.elim
 | .s .., _, _, _, _, h, _, _, _ => h.elim
 | .blk _, _, _, _, _, h, _, _, _ => h.elim
/-- A row of the call's own reads as its elements. -/
theorem Rd.of_own {x : X} {z base n : Nat} {ty : TypeId} {v : Value} {ys : List Value} (h : w.ownsRow base ty z v n ys) (ho : (Rd w P x).own z ys) (hn : n = x.len) (hP : ∀ g, v.ownBlock = some g → P g) : Sl x.len (Rd w P x).row z v := by
 subst hn
 rcases h.2 with ⟨rfl, h0⟩ | ⟨g, cap, cur, rfl, hg, hb, hc, _, hs, ht⟩
 ·refine ⟨none, 0, by rw [h0], fun _ => rfl, by omega, ?_⟩
  cases x with
  | nil => trivial
  | cons _ _ => simp [X.len] at h0
  | e => exact ho.elim
  | f => exact ho.elim
  | s => exact ho.elim
  | blk => exact ho.elim
 ·have hlt : g < w.heap.size := (Array.getElem?_eq_some_iff.1 hb).1
  refine ⟨_, cap, rfl, (fun e => nomatch e), hc, Rd.row_of x z ⟨g, 0, none⟩ 0 ys ho (hP g rfl) hlt fun j u hu => ?_⟩
  have := h.cells (g := g) rfl j u hu
  rwa [Nat.zero_add]
end
end Go.Proofs.Yteakhlnnepjhpaa
/- The document's parser: its state in memory; place, is, fail, opt, take, name, deep, full, ends. -/
namespace Go.Proofs.Yteakhlnnepjhpaa
open Go.RowKit PrM
set_option linter.unusedVariables false
/-- The parser at block g, its tokens at block tg. -/
structure PS (W : World) (g tg c : Nat) (T : List LxM.T) (st : St) : Prop where
 blk : Blk W g #[.slice (some ⟨tg, 0, none⟩) T.length c, .int .i64 (st.i : Int), .int .i64 st.code, .int .i64 st.at_] 48
 row : ∀ i u, (tcells T)[i]? = some u → W.cell? ⟨tg, i, none⟩ = some u
 lt : tg < g
 inb : st.i < T.length
 cap : T.length ≤ c
 small : T.length ≤ 100000
theorem PS.tok {W : World} {g tg c : Nat} {T : List LxM.T} {st : St} (h : PS W g tg c T st) : W.cell? ⟨tg, st.i * 4, none⟩ = some (.int .i64 (PrM.tk T st).kind) ∧ W.cell? ⟨tg, st.i * 4 + 1, none⟩ = some (.string ⟨(PrM.tk T st).text.toArray⟩) ∧ W.cell? ⟨tg, st.i * 4 + 2, none⟩ = some (.int .i64 (PrM.tk T st).n) ∧ W.cell? ⟨tg, st.i * 4 + 3, none⟩ = some (.int .i64 ((PrM.tk T st).at_ : Int)) := by
 have e : PrM.tk T st = T[st.i]'h.inb := by
  unfold PrM.tk
  rw [List.getD_eq_getElem?_getD, List.getElem?_eq_getElem h.inb]
  rfl
 obtain ⟨x, y, z, u⟩ := tcells_at T st.i h.inb
 rw [e]
 exact ⟨h.row _ _ x, h.row _ _ y, h.row _ _ z, h.row _ _ u⟩
theorem PS.sm {W W' : World} {g tg c : Nat} {T : List LxM.T} {st : St} (h : PS W g tg c T st) (m : Sm W W') : PS W' g tg c T st :=
 ⟨by show W'.heap[g]? = _; rw [m.heap]; exact h.blk, fun i u hu => by rw [m.cell]; exact h.row i u hu, h.lt, h.inb, h.cap, h.small⟩
theorem PS.only {F : Nat → Prop} {W W' : World} {g tg c : Nat} {T : List LxM.T} {st : St} (h : PS W g tg c T st) (k : Only F W W') (hF : ∀ i, F i → g < i ∨ W.heap.size ≤ i) : PS W' g tg c T st := by
 have lt := h.blk.lt
 have hlt := h.lt
 exact ⟨(k.block g lt (fun x => by rcases hF g x with y | y <;> omega)).trans h.blk, fun i u hu => (World.cell?_of_block (k.block tg (by omega) (fun x => by rcases hF tg x with y | y <;> omega))).trans (h.row i u hu), h.lt, h.inb, h.cap, h.small⟩
theorem PS.put {W W' : World} {g tg c : Nat} {T : List LxM.T} {st st' : St} (h : PS W g tg c T st) (b : Blk W' g #[.slice (some ⟨tg, 0, none⟩) T.length c, .int .i64 (st'.i : Int), .int .i64 st'.code, .int .i64 st'.at_] 48) (k : Only (fun b => b = g) W W') (hi : st'.i < T.length) : PS W' g tg c T st' := by
 have lt := h.blk.lt
 have hlt := h.lt
 exact ⟨b, fun i u hu => (World.cell?_of_block (k.block tg (by omega) (by omega))).trans (h.row i u hu), h.lt, hi, h.cap, h.small⟩
theorem blkS1 {W : World} {b : Nat} {v0 v1 v2 v3 : Value} {t : TypeId} (h : Blk W b #[v0, v1, v2, v3] t) (u : Value) : Blk (W.setCell ⟨b, 1, none⟩ u) b #[v0, u, v2, v3] t := by
 have h : W.heap[b]? = _ := h
 show (W.setCell ⟨b, 1, none⟩ u).heap[b]? = _
 simp [World.setCell, Array.getElem?_modify, h]
theorem blkS2 {W : World} {b : Nat} {v0 v1 v2 v3 : Value} {t : TypeId} (h : Blk W b #[v0, v1, v2, v3] t) (u : Value) : Blk (W.setCell ⟨b, 2, none⟩ u) b #[v0, v1, u, v3] t := by
 have h : W.heap[b]? = _ := h
 show (W.setCell ⟨b, 2, none⟩ u).heap[b]? = _
 simp [World.setCell, Array.getElem?_modify, h]
theorem blkS3 {W : World} {b : Nat} {v0 v1 v2 v3 : Value} {t : TypeId} (h : Blk W b #[v0, v1, v2, v3] t) (u : Value) : Blk (W.setCell ⟨b, 3, none⟩ u) b #[v0, v1, v2, u] t := by
 have h : W.heap[b]? = _ := h
 show (W.setCell ⟨b, 3, none⟩ u).heap[b]? = _
 simp [World.setCell, Array.getElem?_modify, h]
theorem keep_al {W : World} {p : Addr} {v : Value} (o : Obj) (h : W.cell? p = some v) : (W.alloc o).cell? p = some v := by
 have hb := World.block_lt_of_cell? W p h
 exact (World.cell?_of_block (((Below.refl _ W).alloc (Nat.le_refl _) o).block p.block hb)).trans h
/-- A word or a sign is not the end. -/
theorem tk_kind {W : World} {g tg c : Nat} {T : List LxM.T} {st : St} (h : PS W g tg c T st) (hG : PrM.Good T) (hk : (PrM.tk T st).kind ≠ 0) : st.i + 1 < T.length := by
 have e : PrM.tk T st = T[st.i]'h.inb := by
  unfold PrM.tk
  rw [List.getD_eq_getElem?_getD, List.getElem?_eq_getElem h.inb]
  rfl
 have := (hG.2 st.i h.inb).2
 rw [← e] at this
 have hi := h.inb
 rcases Nat.lt_or_ge (st.i + 1) T.length with x | x
 ·exact x
 ·exact absurd (this (by omega)) hk
theorem is_next {W : World} {g tg c : Nat} {T : List LxM.T} {st : St} (h : PS W g tg c T st) (hG : PrM.Good T) (x : ByteArray) (hi : PrM.is T x st = true) : st.i + 1 < T.length := by
 refine tk_kind h hG fun e => ?_
 unfold PrM.is at hi
 rw [e] at hi
 simp at hi
abbrev TokZ : Obj := .cells #[.int .i64 0, .string ⟨#[]⟩, .int .i64 0, .int .i64 0] 51
section
variable {W : World} {g tg c : Nat} {T : List LxM.T} {st : St}
set_option maxHeartbeats 2000000 in
theorem place_any (h : PS W g tg c T st) :
  Calls Try.prog 34 #[.pointer (some ⟨g, 0, none⟩)] W fun e W' => e = .returned (.int .i64 (place T st)) ∧ Sm W W' := by
 obtain ⟨⟨c0, c1, c2, c3⟩, f0, f1, f2, f3⟩ := h.blk.four
 obtain ⟨t0, t1, t2, t3⟩ := h.tok
 have i0 : (0 : Int) ≤ (st.i : Int) := by omega
 have i1 : (st.i : Int) < (T.length : Int) := by have := h.inb; omega
 have hc : (T.length : Int) ≤ (c : Int) := by have := h.cap; omega
 go_enter Try.func34, Try.ntmps34
 go_wp2_with fail
 go_region
 go_wp2_with fail
 go_ret
 exact ⟨rfl, rfl, rfl, rfl, rfl⟩
set_option maxHeartbeats 4000000 in
theorem is_any (h : PS W g tg c T st) (x : ByteArray) :
  Calls Try.prog 36 #[.pointer (some ⟨g, 0, none⟩), .string x] W fun e W' => e = .returned (.bool (is T x st)) ∧ Below W.heap.size W W' := by
 obtain ⟨⟨c0, c1, c2, c3⟩, f0, f1, f2, f3⟩ := h.blk.four
 obtain ⟨t0, t1, t2, t3⟩ := h.tok
 have i0 : (0 : Int) ≤ (st.i : Int) := by omega
 have i1 : (st.i : Int) < (T.length : Int) := by have := h.inb; omega
 have hc : (T.length : Int) ≤ (c : Int) := by have := h.cap; omega
 have A0 := keep_al TokZ c0
 have A1 := keep_al TokZ c1
 have B0 := keep_al TokZ t0
 have B1 := keep_al TokZ t1
 have B2 := keep_al TokZ t2
 have B3 := keep_al TokZ t3
 have D2 := fun C => keep_al (.cells C 51 (0, 0)) c2
 obtain ⟨⟨z0, z1, z2, z3⟩, y0, y1, y2, y3⟩ := (Blk.new W #[.int .i64 0, .string ⟨#[]⟩, .int .i64 0, .int .i64 0] 51).four
 have bl : ∀ C, Below W.heap.size W (W.alloc (.cells C 51 (0, 0))) := fun C => (Below.refl _ W).alloc (Nat.le_refl _) _
 have BL := Lib.hid bl
 have te : ∀ u : List UInt8, (u == x.toList) = decide (u = x.data.toList) := fun u => by
  rw [Go.ByteArray.toList_eq, Bool.eq_iff_iff]; simp
 unfold PrM.is
 generalize PrM.tk T st = t at *
 obtain ⟨cv, ecv⟩ : ∃ cv, decide (st.code = 0) = cv := ⟨_, rfl⟩
 obtain ⟨k1, ek1⟩ : ∃ k1, decide (t.kind = 1) = k1 := ⟨_, rfl⟩
 obtain ⟨k5, ek5⟩ : ∃ k5, decide (t.kind = 5) = k5 := ⟨_, rfl⟩
 obtain ⟨tv, etv⟩ : ∃ tv, decide (t.text = x.data.toList) = tv := ⟨_, rfl⟩
 have q0 : (st.code == 0) = cv := by rw [← ecv, Bool.eq_iff_iff]; simp
 have q1 : (t.kind == 1) = k1 := by rw [← ek1, Bool.eq_iff_iff]; simp
 have q5 : (t.kind == 5) = k5 := by rw [← ek5, Bool.eq_iff_iff]; simp
 have qt := te t.text
 rw [etv] at qt
 rw [ecv, ek1, ek5, etv]
 clear h bl te ecv ek1 ek5 etv
 cases cv
 ·go_enter Try.func36, Try.ntmps36
  go_wp2_with fail
  go_region
  go_wp2_with fail
  go_ret
  exact ⟨rfl, (BL.out _).drew⟩
 ·cases k1 <;> cases k5 <;> cases tv
  all_goals
   go_enter Try.func36, Try.ntmps36
   go_wp2_with fail
   go_region
   go_wp2_with fail
   go_ret
   exact ⟨rfl, (BL.out _).drew⟩
set_option maxHeartbeats 4000000 in
theorem fail_any (h : PS W g tg c T st) (k : Int) :
  Calls Try.prog 17 #[.pointer (some ⟨g, 0, none⟩), .int .i64 k] W fun e W' => e = .returned (.tuple #[]) ∧ PS W' g tg c T (PrM.fail T k st) ∧ Only (fun b => b = g) W W' := by
 have H := Lib.hid h
 obtain ⟨⟨c0, c1, c2, c3⟩, f0, f1, f2, f3⟩ := h.blk.four
 obtain ⟨t0, t1, t2, t3⟩ := h.tok
 have i0 : (0 : Int) ≤ (st.i : Int) := by omega
 have i1 : (st.i : Int) < (T.length : Int) := by have := h.inb; omega
 have hc : (T.length : Int) ≤ (c : Int) := by have := h.cap; omega
 clear h
 by_cases q : st.code = 0
 ·have q0 : (st.code == 0) = true := by rw [q]; rfl
  have HQ := Lib.hid q
  clear q
  go_enter Try.func17, Try.ntmps17
  go_wp2_with fail
  go_region
  go_wp2_with fail
  go_end0
  have o := ((Only.refl (fun b => b = g) W).setCell (p := ⟨g, 2, none⟩) (.inl rfl) (.int .i64 k)).setCell (p := ⟨g, 3, none⟩) (.inl rfl) (.int .i64 ((PrM.tk T st).at_ : Int))
  have e : PrM.fail T k st = ⟨st.i, k, ((PrM.tk T st).at_ : Int)⟩ := by unfold PrM.fail; rw [if_pos HQ.out]; rfl
  rw [e]
  exact ⟨rfl, H.out.put (blkS3 (blkS2 H.out.blk _) _) o.drew H.out.inb, o.drew⟩
 ·have q0 : (st.code == 0) = false := by rw [beq_eq_false_iff_ne]; exact q
  have HQ := Lib.hid q
  clear q
  go_enter Try.func17, Try.ntmps17
  go_wp2_with fail
  go_end0
  have e : PrM.fail T k st = st := by unfold PrM.fail; rw [if_neg HQ.out]
  rw [e]
  exact ⟨rfl, H.out, Only.refl _ _⟩
end
end Go.Proofs.Yteakhlnnepjhpaa
/- The document's parser: opt, take, name, deep, full, ends. -/
namespace Go.Proofs.Yteakhlnnepjhpaa
open Go.RowKit PrM
set_option linter.unusedVariables false
theorem Sm.drewn (w : World) : Sm w w.drew := ⟨rfl, rfl, rfl, rfl⟩
section
variable {W : World} {g tg c : Nat} {T : List LxM.T} {st : St}
set_option maxRecDepth 20000 in
set_option maxHeartbeats 4000000 in
theorem opt_any (h : PS W g tg c T st) (hG : PrM.Good T) (x : ByteArray) :
  Calls Try.prog 35 #[.pointer (some ⟨g, 0, none⟩), .string x] W fun e W' => e = .returned (.bool (is T x st)) ∧ PS W' g tg c T (opt T x st) ∧ Only (fun b => b = g) W W' := by
 have H := Lib.hid h
 have IS := Lib.hid (is_any h x)
 have UP := Lib.hid (is_next h hG x)
 have i0 : (0 : Int) ≤ (st.i : Int) := by omega
 have i1 : (st.i : Int) < 100000 := by have := h.inb; have := h.small; omega
 have I1 := Lib.hid i1
 unfold PrM.opt
 generalize PrM.is T x st = b at *
 clear h hG
 cases b
 ·rw [if_neg (by decide)]
  go_enter Try.func35, Try.ntmps35
  go_wp2_with (go_at_call 36; refine IS.out.mono ?_; rintro e w1 ⟨rfl, b1⟩; have B1 := Lib.hid b1; clear b1)
  go_ret
  exact ⟨rfl, H.out.only (Only.of_below (F := fun _ => False) B1.out) (fun _ f => f.elim), Only.of_below B1.out⟩
 ·rw [if_pos rfl]
  have UP2 := Lib.hid (UP.out rfl)
  clear UP
  go_enter Try.func35, Try.ntmps35
  go_wp2_with (go_at_call 36; refine IS.out.mono ?_; rintro e w1 ⟨rfl, b1⟩; have H1 := Lib.hid (H.out.only (Only.of_below (F := fun _ => False) b1) (fun _ f => f.elim)); have O1 := Lib.hid (Only.of_below (F := fun b => b = g) b1); clear b1; have i1' := I1.out; obtain ⟨⟨c0, c1, c2, c3⟩, f0, f1, f2, f3⟩ := H1.out.blk.four)
  go_ret
  have o := (Only.refl (fun b => b = g) w1).setCell (p := ⟨g, 1, none⟩) (.inl rfl) (.int .i64 ((st.i : Int) + 1))
  exact ⟨rfl, H1.out.put (blkS1 H1.out.blk (.int .i64 ((st.i + 1 : Nat) : Int))) o UP2.out, O1.out.trans o (fun _ f => .inl f)⟩
set_option maxHeartbeats 4000000 in
theorem take_any (h : PS W g tg c T st) (hG : PrM.Good T) (x : ByteArray) :
  Calls Try.prog 51 #[.pointer (some ⟨g, 0, none⟩), .string x] W fun e W' => e = .returned (.tuple #[]) ∧ PS W' g tg c T (take T x st) ∧ Only (fun b => b = g) W W' := by
 have OP := Lib.hid (opt_any h hG x)
 have FA := Lib.hid (fun W1 st1 (h1 : PS W1 g tg c T st1) => fail_any h1 14)
 unfold PrM.opt at OP
 unfold PrM.take
 generalize PrM.is T x st = b at *
 clear h hG
 cases b
 ·rw [if_neg (by decide)] at OP ⊢
  go_enter Try.func51, Try.ntmps51
  go_wp2_with (first
   |(go_at_call 35; refine OP.out.mono ?_; rintro e w1 ⟨rfl, p1, o1⟩; have P1 := Lib.hid p1; have O1 := Lib.hid o1; clear p1 o1)
   |(go_at_call 17; refine (FA.out _ _ P1.out).mono ?_; rintro e w2 ⟨rfl, p2, o2⟩; have P2 := Lib.hid p2; have O2 := Lib.hid (O1.out.trans o2 (fun _ f => .inl f)); clear p2 o2))
  go_end0
  exact ⟨rfl, P2.out, O2.out⟩
 ·rw [if_pos rfl] at OP ⊢
  go_enter Try.func51, Try.ntmps51
  go_wp2_with (first
   |(go_at_call 35; refine OP.out.mono ?_; rintro e w1 ⟨rfl, p1, o1⟩; have P1 := Lib.hid p1; have O1 := Lib.hid o1; clear p1 o1))
  go_end0
  exact ⟨rfl, P1.out, O1.out⟩
theorem deep_any (h : PS W g tg c T st) (d : Int) :
  Calls Try.prog 32 #[.pointer (some ⟨g, 0, none⟩), .int .i64 d] W fun e W' => e = .returned (.tuple #[]) ∧ PS W' g tg c T (deep T d st) ∧ Only (fun b => b = g) W W' := by
 have H := Lib.hid h
 have FA := Lib.hid (fail_any h 8)
 unfold PrM.deep
 clear h
 by_cases q : 100 < d
 ·rw [if_pos q]
  go_enter Try.func32, Try.ntmps32
  go_wp2_with (go_at_call 17; refine FA.out.mono ?_; rintro e w2 ⟨rfl, p2, o2⟩; have P2 := Lib.hid p2; have O2 := Lib.hid o2; clear p2 o2)
  go_end0
  exact ⟨rfl, P2.out, O2.out⟩
 ·rw [if_neg q]
  have q1 : d ≤ 100 := by omega
  go_enter Try.func32, Try.ntmps32
  go_wp2_with fail
  go_end0
  exact ⟨rfl, H.out, Only.refl _ _⟩
theorem full_any (h : PS W g tg c T st) (n m : Int) :
  Calls Try.prog 60 #[.pointer (some ⟨g, 0, none⟩), .int .i64 n, .int .i64 m] W fun e W' => e = .returned (.tuple #[]) ∧ PS W' g tg c T (full T n m st) ∧ Only (fun b => b = g) W W' := by
 have H := Lib.hid h
 have FA := Lib.hid (fail_any h 8)
 unfold PrM.full
 clear h
 by_cases q : m ≤ n
 ·rw [if_pos q]
  go_enter Try.func60, Try.ntmps60
  go_wp2_with (go_at_call 17; refine FA.out.mono ?_; rintro e w2 ⟨rfl, p2, o2⟩; have P2 := Lib.hid p2; have O2 := Lib.hid o2; clear p2 o2)
  go_end0
  exact ⟨rfl, P2.out, O2.out⟩
 ·rw [if_neg q]
  have q1 : n < m := by omega
  go_enter Try.func60, Try.ntmps60
  go_wp2_with fail
  go_end0
  exact ⟨rfl, H.out, Only.refl _ _⟩
set_option maxHeartbeats 4000000 in
theorem name_any (h : PS W g tg c T st) (hG : PrM.Good T) :
  Calls Try.prog 49 #[.pointer (some ⟨g, 0, none⟩)] W fun e W' => e = .returned (.string (nameT T st)) ∧ PS W' g tg c T (nameS T st) ∧ Only (fun b => b = g) W W' := by
 have H := Lib.hid h
 have FA := Lib.hid (fun W1 st1 (h1 : PS W1 g tg c T st1) => fail_any h1 14)
 have UP := Lib.hid (fun hk => tk_kind h hG hk)
 obtain ⟨⟨c0, c1, c2, c3⟩, f0, f1, f2, f3⟩ := h.blk.four
 obtain ⟨t0, t1, t2, t3⟩ := h.tok
 have i0 : (0 : Int) ≤ (st.i : Int) := by omega
 have i1 : (st.i : Int) < (T.length : Int) := by have := h.inb; omega
 have hc : (T.length : Int) ≤ (c : Int) := by have := h.cap; omega
 have i2 : (T.length : Int) ≤ 100000 := by have := h.small; omega
 unfold nameT nameS
 by_cases q : st.code = 0
 ·have q0 : (st.code == 0) = true := by rw [q]; rfl
  have q1 : (st.code != 0) = false := by rw [q]; rfl
  rw [if_pos q]
  by_cases k : (PrM.tk T st).kind = 2
  ·rw [if_pos ⟨q, k⟩, if_pos k]
   have k0 : ((PrM.tk T st).kind != 2) = false := by rw [k]; rfl
   have UP2 := Lib.hid (UP.out (by rw [k]; decide))
   clear h hG q k UP
   go_enter Try.func49, Try.ntmps49
   have lt := H.out.lt
   have t1' : ∀ u, (W.setCell ⟨g, 1, none⟩ u).cell? ⟨tg, st.i * 4 + 1, none⟩ = some (.string ⟨(PrM.tk T st).text.toArray⟩) := fun u => by
    rw [World.cell?_setCell_other _ _ _ _ (by intro e; injection e with e; omega)]; exact t1
   clear lt
   go_wp2_with fail
   go_region
   go_wp2_with fail
   go_region
   go_wp2_with fail
   go_ret
   have o := (Only.refl (fun b => b = g) W).setCell (p := ⟨g, 1, none⟩) (.inl rfl) (.int .i64 ((st.i : Int) + 1))
   exact ⟨rfl, H.out.put (blkS1 H.out.blk (.int .i64 ((st.i + 1 : Nat) : Int))) o.drew.drew UP2.out, o.drew.drew⟩
  ·rw [if_neg (fun x => k x.2), if_neg k]
   have k0 : ((PrM.tk T st).kind != 2) = true := by simpa using k
   have CD := Lib.hid (show (PrM.fail T 14 st).code = 14 by unfold PrM.fail; rw [if_pos q])
   have HD := Lib.hid (H.out.sm (Sm.drewn W))
   clear h hG q k UP
   go_enter Try.func49, Try.ntmps49
   go_wp2_with fail
   go_region
   go_wp2_with (go_at_call 17; refine (FA.out _ _ HD.out).mono ?_; rintro e w2 ⟨rfl, p2, o2⟩; have P2 := Lib.hid p2; have O2 := Lib.hid (((Only.refl (fun b => b = g) W).drew).trans o2 (fun _ f => .inl f)); have d2 := p2.blk.four.1.2.2.1; rw [CD.out] at d2; clear p2 o2)
   go_ret
   exact ⟨rfl, P2.out, O2.out⟩
 ·have q0 : (st.code == 0) = false := by simpa using q
  have q1 : (st.code != 0) = true := by simpa using q
  rw [if_neg (fun x => q x.1), if_neg q]
  clear h hG q UP
  go_enter Try.func49, Try.ntmps49
  go_wp2_with fail
  go_region
  go_wp2_with fail
  go_ret
  exact ⟨rfl, H.out.sm (Sm.drewn W), (Only.refl _ _).drew⟩
end
end Go.Proofs.Yteakhlnnepjhpaa
/- The document's parser: what is asked of its functions at one depth of calls; boxes of seven cells. -/
namespace Go.Proofs.Yteakhlnnepjhpaa
open Go.RowKit PrM
set_option linter.unusedVariables false
/-- Blocks made from a world on. -/
def Lo (W : World) : Nat → Prop := fun k => W.heap.size ≤ k
/-- What a function that returns an expression answers. -/
def RE (W : World) (g tg c : Nat) (T : List LxM.T) (st : St) (r : X × St) (e : Ending) (W' : World) : Prop :=
 (∃ v0 v1 v2 v3 v4 v5 v6, e = .returned (.agg #[v0, v1, v2, v3, v4, v5, v6]) ∧ (Rd W' (Lo W) r.1).cells #[v0, v1, v2, v3, v4, v5, v6]) ∧ PS W' g tg c T r.2 ∧ Only (fun b => b = g) W W' ∧ st.i ≤ r.2.i
/-- What a function that returns a block answers. -/
def RB (W : World) (g tg c : Nat) (T : List LxM.T) (st : St) (r : X × St) (e : Ending) (W' : World) : Prop :=
 (∃ v, e = .returned v ∧ Sl r.1.len (Rd W' (Lo W) r.1).row 5 v) ∧ PS W' g tg c T r.2 ∧ Only (fun b => b = g) W W' ∧ st.i ≤ r.2.i
/-- What a function answers that returns a function. -/
def RF (W : World) (g tg c : Nat) (T : List LxM.T) (st : St) (r : X × St) (e : Ending) (W' : World) : Prop :=
 (∃ v0 v1, e = .returned (.agg #[v0, v1]) ∧ (Rd W' (Lo W) r.1).cells #[v0, v1]) ∧ PS W' g tg c T r.2 ∧ Only (fun b => b = g) W W' ∧ st.i ≤ r.2.i
abbrev ptr (g : Nat) : Value := .pointer (some ⟨g, 0, none⟩)
/-- The functions at a depth of calls do what the plain ones say. -/
structure OkF (g tg c : Nat) (T : List LxM.T) (F : Nat) : Prop where
 exp : ∀ (W : World) (st : St) (d : Nat), PS W g tg c T st → d ≤ 100 → 100 * (101 - d) + 1 ≤ F → Calls Try.prog 37 #[ptr g, .int .i64 (d : Int)] W (RE W g tg c T st ((fs T F).exp d st))
 level : ∀ (W : World) (st : St) (n d : Nat), PS W g tg c T st → n ≤ 6 → d ≤ 101 → (st.code = 0 → d ≤ 100) → 100 * (101 - d) + (20 - 2 * n) ≤ F → Calls Try.prog 48 #[ptr g, .int .i64 (n : Int), .int .i64 (d : Int)] W (RE W g tg c T st ((fs T F).level n d st))
 join : ∀ (W : World) (st : St) (d : Nat), PS W g tg c T st → st.code = 0 → d ≤ 100 → 100 * (101 - d) + 13 ≤ F → Calls Try.prog 58 #[ptr g, .int .i64 (d : Int)] W (RE W g tg c T st ((fs T F).join d st))
 unary : ∀ (W : World) (st : St) (d : Nat), PS W g tg c T st → st.code = 0 → d ≤ 100 → 100 * (101 - d) + 7 ≤ F → Calls Try.prog 59 #[ptr g, .int .i64 (d : Int)] W (RE W g tg c T st ((fs T F).unary d st))
 post : ∀ (W : World) (st : St) (d : Nat), PS W g tg c T st → d ≤ 100 → 100 * (101 - d) + 6 ≤ F → Calls Try.prog 69 #[ptr g, .int .i64 (d : Int)] W (RE W g tg c T st ((fs T F).post d st))
 table : ∀ (W : World) (st : St) (a : Int) (d : Nat), PS W g tg c T st → d ≤ 100 → 100 * (101 - d) + 5 ≤ F → Calls Try.prog 73 #[ptr g, .int .i64 a, .int .i64 (d : Int)] W (RE W g tg c T st ((fs T F).table a d st))
 body : ∀ (W : World) (st : St) (d : Nat), PS W g tg c T st → d ≤ 100 → 100 * (101 - d) + 5 ≤ F → Calls Try.prog 50 #[ptr g, .int .i64 (d : Int)] W (RF W g tg c T st ((fs T F).body d st))
 block : ∀ (W : World) (st : St) (d : Nat), PS W g tg c T st → d ≤ 100 → 100 * (101 - d) + 3 ≤ F → Calls Try.prog 16 #[ptr g, .int .i64 (d : Int)] W (RB W g tg c T st ((fs T F).block d st))
 behind : ∀ (W : World) (st : St) (P : Nat → Prop) (x : X) (v0 v1 v2 v3 v4 v5 v6 : Value) (d : Nat), PS W g tg c T st → (Rd W P x).cells #[v0, v1, v2, v3, v4, v5, v6] → ¬ P g → d ≤ 100 → 100 * (101 - d) + 4 ≤ F →
  Calls Try.prog 52 #[ptr g, .agg #[v0, v1, v2, v3, v4, v5, v6], .int .i64 (d : Int)] W fun e W' => (∃ u0 u1 u2 u3 u4 u5 u6, e = .returned (.agg #[u0, u1, u2, u3, u4, u5, u6]) ∧ (Rd W' (fun k => P k ∨ W.heap.size ≤ k) ((fs T F).behind x d st).1).cells #[u0, u1, u2, u3, u4, u5, u6]) ∧ PS W' g tg c T ((fs T F).behind x d st).2 ∧ Only (fun b => b = g) W W' ∧ st.i ≤ ((fs T F).behind x d st).2.i
 stat : ∀ (W : World) (st : St) (a : Int) (b d : Nat), PS W g tg c T st → Blk W b #[.int .i64 0, .int .i64 a, .slice none 0 0, .slice none 0 0, .slice none 0 0] 42 → g < b → st.code = 0 → d ≤ 100 → 100 * (101 - d) + 6 ≤ F →
  Calls Try.prog 38 #[ptr g, ptr b, .int .i64 (d : Int)] W fun e W' => e = .returned (.tuple #[]) ∧ (∃ v0 v1 v2 v3 v4, Blk W' b #[v0, v1, v2, v3, v4] 42 ∧ (Rd W' (Lo W) ((fs T F).stat (.s 0 a [] .nil .nil) d st).1).cells #[v0, v1, v2, v3, v4]) ∧ PS W' g tg c T ((fs T F).stat (.s 0 a [] .nil .nil) d st).2 ∧ Only (fun k => k = g ∨ k = b) W W' ∧ st.i ≤ ((fs T F).stat (.s 0 a [] .nil .nil) d st).2.i ∧ (((fs T F).stat (.s 0 a [] .nil .nil) d st).2.code ≠ 0 ∨ st.i < ((fs T F).stat (.s 0 a [] .nil .nil) d st).2.i)
/-- A box of seven cells. -/
theorem Blk.seven {W : World} {b : Nat} {v0 v1 v2 v3 v4 v5 v6 : Value} {t : TypeId} (h : Blk W b #[v0, v1, v2, v3, v4, v5, v6] t) :
  (W.cell? ⟨b, 0, none⟩ = some v0 ∧ W.cell? ⟨b, 1, none⟩ = some v1 ∧ W.cell? ⟨b, 2, none⟩ = some v2 ∧ W.cell? ⟨b, 3, none⟩ = some v3 ∧ W.cell? ⟨b, 4, none⟩ = some v4 ∧ W.cell? ⟨b, 5, none⟩ = some v5 ∧ W.cell? ⟨b, 6, none⟩ = some v6) ∧
  W.frozen? ⟨b, 0, none⟩ = false ∧ W.frozen? ⟨b, 1, none⟩ = false ∧ W.frozen? ⟨b, 2, none⟩ = false ∧ W.frozen? ⟨b, 3, none⟩ = false ∧ W.frozen? ⟨b, 4, none⟩ = false ∧ W.frozen? ⟨b, 5, none⟩ = false ∧ W.frozen? ⟨b, 6, none⟩ = false := by
 have h : W.heap[b]? = _ := h
 simp [World.cell?, World.frozen?, h]
theorem sizeE : (Try.prog.info? 39).map (·.size) = some 7 := by kernel_rfl
theorem ones7 {v0 v1 v2 v3 v4 v5 v6 : Value} (h : ∀ u ∈ (#[v0, v1, v2, v3, v4, v5, v6] : Array Value).toList, u.oneCell' = true) : (#[v0, v1, v2, v3, v4, v5, v6] : Array Value).all (·.oneCell') = true := by
 rw [Array.all_eq_true]
 intro i hi
 exact h _ (by simp)
theorem Only.row {F : Nat → Prop} {a w : World} (h : Only F a w) (b : Nat) (hb : F b ∨ a.heap.size ≤ b) (cs : Array Value) : Only F a (w.setRow b cs) :=
 h.trans (G := fun k => k = b) ⟨rfl, rfl, rfl, (grown_row w b cs).size, fun k _ hk => (grown_row w b cs).block k ‹_› (fun e => hk (Option.some.inj e))⟩ (fun n e => by subst e; exact hb)
end Go.Proofs.Yteakhlnnepjhpaa
/- The document's parser: an expression, a level's way to a join or a sign, a join, signs ahead. -/
namespace Go.Proofs.Yteakhlnnepjhpaa
open Go.RowKit PrM
set_option linter.unusedVariables false
abbrev Z7 : Array Value := #[.int .i64 0, .int .i64 0, .int .i64 0, .string ⟨#[]⟩, .int .i64 0, .slice none 0 0, .slice none 0 0]
theorem PS.alloc {W : World} {g tg c : Nat} {T : List LxM.T} {st : St} (h : PS W g tg c T st) (o : Obj) : PS (W.alloc o) g tg c T st := h.only (Only.of_below (F := fun _ => False) ((Below.refl _ W).alloc (Nat.le_refl _) o)) (fun _ f => f.elim)
theorem Blk.only {F : Nat → Prop} {W W' : World} {b : Nat} {c : Array Value} {t : TypeId} (h : Blk W b c t) (k : Only F W W') (hb : ¬ F b) : Blk W' b c t := (k.block b h.lt hb).trans h
theorem res7 {fn : Func} {p : Tmp} (h : fn.results = #[.cell p 39]) (tmps : Array Value) (w : World) (b : Nat) (v0 v1 v2 v3 v4 v5 v6 : Value) (hp : tmps.getD p undef = .pointer (some ⟨b, 0, none⟩)) (hb : Blk w b #[v0, v1, v2, v3, v4, v5, v6] 39) :
  (results fn tmps).run Try.prog w = .ok (.agg #[v0, v1, v2, v3, v4, v5, v6]) w := results_cell_row h tmps w b 39 #[v0, v1, v2, v3, v4, v5, v6] (0, 0) _ hp hb Try.underlying39 rfl (by kernel_rfl)
theorem only_row (w : World) (b : Nat) (cs : Array Value) : Only (fun k => k = b) w (w.setRow b cs) := Only.row (Only.refl (fun k => k = b) w) b (.inl rfl) cs
theorem blk_row {w : World} {b : Nat} {old cs : Array Value} {t : TypeId} (h : Blk w b old t) : Blk (w.setRow b cs) b cs t := setRow_heap' _ _ _ _ _ h
/-- The end of a function whose answer lies in a box of its own. -/
theorem RE.end_ {W w1 w2 : World} {g tg c b : Nat} {T : List LxM.T} {st : St} {r : X × St} {v0 v1 v2 v3 v4 v5 v6 : Value} (hg : g < W.heap.size) (hb : W.heap.size ≤ b) (hw : b < w1.heap.size) (rd : (Rd w2 (Lo w1) r.1).cells #[v0, v1, v2, v3, v4, v5, v6]) (p2 : PS w2 g tg c T r.2) (o2 : Only (fun k => k = g) W w2) (i2 : st.i ≤ r.2.i) : RE W g tg c T st r (.returned (.agg #[v0, v1, v2, v3, v4, v5, v6])) (w2.setRow b #[v0, v1, v2, v3, v4, v5, v6]) :=
 ⟨⟨_, _, _, _, _, _, _, rfl, (Rd.move (Moves.of_only (only_row w2 b _) (fun k hk _ e => by unfold Lo at hk; omega) (fun k hk _ => by unfold Lo at hk ⊢; omega)) r.1).1 _ rd⟩, p2.only (only_row w2 b _) (fun i e => .inl (by omega)), o2.row b (.inr hb) _, i2⟩
theorem Only.up {F : Nat → Prop} {a b c : World} (h : Only F a b) (k : Only F b c) : Only F a c := h.trans k fun _ f => .inl f
section
variable {F g tg c : Nat} {T : List LxM.T}
set_option maxHeartbeats 4000000 in
theorem exp_any (hF : OkF g tg c T F) (W : World) (st : St) (d : Nat) (h : PS W g tg c T st) (hd : d ≤ 100) (hm : 100 * (101 - d) + 1 ≤ F + 1) : Calls Try.prog 37 #[ptr g, .int .i64 (d : Int)] W (RE W g tg c T st ((fs T (F + 1)).exp d st)) := by
 have DP := Lib.hid (deep_any (h.alloc (.cells Z7 39)) ((d + 1 : Nat) : Int))
 have hc : (deep T ((d + 1 : Nat) : Int) st).code = 0 → d + 1 ≤ 100 := fun e => by
  unfold PrM.deep PrM.fail at e
  split at e
  ·split at e
   ·cases e
   ·contradiction
  ·omega
 have hi : (deep T ((d + 1 : Nat) : Int) st).i = st.i := by
  unfold PrM.deep PrM.fail
  split
  ·split <;> rfl
  ·rfl
 have HI := Lib.hid hi
 have LV := Lib.hid (fun W1 (h1 : PS W1 g tg c T (deep T ((d + 1 : Nat) : Int) st)) => hF.level W1 _ 0 (d + 1) h1 (by omega) (by omega) hc (by omega))
 have e1 : (fs T (F + 1)).exp (d : Int) st = (fs T F).level 0 ((d + 1 : Nat) : Int) (deep T ((d + 1 : Nat) : Int) st) := rfl
 rw [e1]
 have B0 := Lib.hid (Only.of_below (F := fun b => b = g) ((Below.refl W.heap.size W).alloc (Nat.le_refl _) (.cells Z7 39)))
 have K0 := Lib.hid (Blk.new W Z7 39)
 have HG := Lib.hid h.blk.lt
 have i0 : (0 : Int) ≤ (d : Int) := by omega
 have i1 : (d : Int) ≤ 100 := by omega
 generalize (fs T F).level 0 ((d + 1 : Nat) : Int) (deep T ((d + 1 : Nat) : Int) st) = r at *
 generalize deep T ((d + 1 : Nat) : Int) st = st1 at *
 clear h hF hm hc hi e1 hd
 go_enter Try.func37, Try.ntmps37
 go_wp2_with (first
  |(go_at_call 32; refine DP.out.mono ?_; rintro e w1 ⟨rfl, p1, o1⟩; have P1 := Lib.hid p1; have O1 := Lib.hid (B0.out.up o1); have K1 := Lib.hid (K0.out.only o1 (by have := HG.out; omega)); clear p1 o1)
  |(go_at_call 48; refine (LV.out _ P1.out).mono ?_; rintro e w2 ⟨⟨v0, v1, v2, v3, v4, v5, v6, rfl, rd⟩, p2, o2, i2⟩; have P2 := Lib.hid p2; have O2 := Lib.hid (O1.out.up o2); have K2 := Lib.hid (K1.out.only o2 (by have := HG.out; omega)); have RD := Lib.hid rd; have I2 := Lib.hid i2; have S1 := Lib.hid o2.size; have S0 := Lib.hid O1.out.size; clear p2 o2 rd i2)
  |(refine wpList_store_row rfl 39 (.tmp 4) (.tmp 12) rfl W.heap.size #[v0, v1, v2, v3, v4, v5, v6] rfl rfl 39 _ K2.out sizeE rfl (ones7 (Rd.one_cells _ _ RD.out)) ?_)
  |(refine wp_store_row 39 (.tmp 4) (.tmp 12) rfl W.heap.size #[v0, v1, v2, v3, v4, v5, v6] rfl rfl 39 _ K2.out sizeE rfl (ones7 (Rd.one_cells _ _ RD.out)) ?_))
 refine bodyPost_ret (res7 rfl _ _ W.heap.size v0 v1 v2 v3 v4 v5 v6 rfl (blk_row K2.out)) rfl ?_
 exact RE.end_ HG.out (Nat.le_refl _) K1.out.lt RD.out P2.out O2.out (by have := I2.out; have := HI.out; omega)
end
end Go.Proofs.Yteakhlnnepjhpaa
