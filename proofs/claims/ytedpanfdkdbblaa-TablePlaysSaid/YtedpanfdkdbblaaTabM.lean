/- A table as the document says it, in plain words: names with numbers, in the order in which they came; how long it ever was since it was empty. Plain mathematics: no program is named. -/
namespace Go.Proofs.Ytedpanfdkdbblaa.TabM

structure T where
  l : List (List UInt8 × Int)
  great : Nat
def get (l : List (List UInt8 × Int)) (s : List UInt8) : Option Int := (l.find? fun a => a.1 == s).map Prod.snd
def put (t : T) (s : List UInt8) (n : Int) : T :=
  match get t.l s with
  | some _ => { t with l := t.l.map fun a => if a.1 = s then (s, n) else a }
  | none => ⟨t.l ++ [(s, n)], max (if t.l = [] then 0 else t.great) (t.l.length + 1)⟩
def del (t : T) (s : List UInt8) : T := { t with l := t.l.filter fun a => a.1 != s }
def fresh : T := ⟨[], 0⟩
/-- What a call tells of a name. -/
def was (l : List (List UInt8 × Int)) (s : List UInt8) : Int := (get l s).getD 0
def is (l : List (List UInt8 × Int)) (s : List UInt8) : Bool := (get l s).isSome
def names (t : T) : List (List UInt8) := t.l.map Prod.fst
end Go.Proofs.Ytedpanfdkdbblaa.TabM
