/- A disk as the document says it, in plain words: a list of files in the order of their names, a room, whether it is down; its calls as functions. Plain mathematics: no program is named. -/
namespace Go.Proofs.Ythclaolmmlgalaa.DiskM

structure F where
  name : List UInt8
  b : List UInt8
  sync : Nat
structure D where
  l : List F
  max : Nat
  down : Bool

def lt : List UInt8 → List UInt8 → Bool
  | [], [] => false
  | [], _ :: _ => true
  | _ :: _, [] => false
  | c :: a, d :: b => if c < d then true else if d < c then false else lt a b
def find (l : List F) (s : List UInt8) : Option F := l.find? fun f => f.name == s
def used (l : List F) : Nat := (l.map fun f => f.b.length).sum
def named (s : List UInt8) : Bool := decide (1 ≤ s.length ∧ s.length ≤ 64)
/-- A file put in its place, one of that name replaced. -/
def put : List F → F → List F
  | [], f => [f]
  | g :: r, f => if g.name = f.name then f :: r else if lt f.name g.name then f :: g :: r else g :: put r f
def out (l : List F) (s : List UInt8) : List F := l.filter fun f => f.name != s
def fresh (room : Nat) : D := ⟨[], room, false⟩
def append (d : D) (s b : List UInt8) : Int × D :=
  if d.down then (23, d) else if named s = false then (24, d) else if (d.max : Int) - used d.l < b.length then (9, d)
  else match find d.l s with
    | some f => (0, { d with l := put d.l ⟨s, f.b ++ b, f.sync⟩ })
    | none => (0, { d with l := put d.l ⟨s, b, 0⟩ })
/-- A file that there must be. -/
def have_ (d : D) (s : List UInt8) : Except Int F :=
  if d.down then .error 23 else match find d.l s with
    | some f => .ok f
    | none => .error 25
def sync (d : D) (s : List UInt8) : Int × D :=
  match have_ d s with
  | .error e => (e, d)
  | .ok f => (0, { d with l := put d.l ⟨s, f.b, f.b.length⟩ })
def cut (d : D) (s : List UInt8) (n : Int) : Int × D :=
  match have_ d s with
  | .error e => (e, d)
  | .ok f => if n < 0 ∨ (f.b.length : Int) < n then (7, d) else (0, { d with l := put d.l ⟨s, f.b.take n.toNat, n.toNat⟩ })
def rename (d : D) (s t : List UInt8) : Int × D :=
  match have_ d s with
  | .error e => (e, d)
  | .ok f => if named t = false then (24, d) else if s = t then (0, d) else (0, { d with l := put (out d.l s) ⟨t, f.b, f.sync⟩ })
def delete (d : D) (s : List UInt8) : Int × D :=
  match have_ d s with
  | .error e => (e, d)
  | .ok _ => (0, { d with l := out d.l s })
def read (d : D) (s : List UInt8) : List UInt8 × Int :=
  match have_ d s with
  | .error e => ([], e)
  | .ok f => (f.b, 0)
def size (d : D) (s : List UInt8) : Nat := match find d.l s with | some f => f.b.length | none => 0
def synced (d : D) (s : List UInt8) : Nat := match find d.l s with | some f => f.sync | none => 0
def names (d : D) : List (List UInt8) := d.l.map F.name
def room (d : D) (n : Int) : D := { d with max := (max 0 (min n 16777216)).toNat }
/-- How many bytes stay. -/
def stays (keep : Int) (f : F) : Nat := f.sync + (max 0 (min keep ((f.b.length : Int) - f.sync))).toNat
def garbled (from_ : Nat) : Nat → List UInt8 → List UInt8
  | _, [] => []
  | i, c :: r => (if from_ ≤ i then c ^^^ 0xa5 else c) :: garbled from_ (i + 1) r
def crashed (keep : Int) (garble : Bool) (f : F) : F :=
  let n := stays keep f
  ⟨f.name, if garble then garbled (max f.sync ((n - 1) / 512 * 512)) 0 (f.b.take n) else f.b.take n, n⟩
def crash (d : D) (keep : Int) (garble : Bool) : D := if d.down then d else ⟨d.l.map (crashed keep garble), d.max, true⟩
def start (d : D) : Int × D := if d.down then (0, { d with down := false }) else (23, d)
end Go.Proofs.Ythclaolmmlgalaa.DiskM
