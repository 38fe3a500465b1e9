/- What the laws on disks ask of package disk: that some relation R between memory and the document's disk is kept by its calls; and the laws' own check 'told' out of that. -/
import Derived.Test.YthclaolmmlgalaaFrame
import Derived.Test.YthclaolmmlgalaaDkM
import Derived.Lib.SlBytesConst
namespace Go.Proofs.Ythclaolmmlgalaa
open Go.RowKit
set_option linter.unusedVariables false

/-- A call that turns the disk (R w F p M: at the address p lies the disk M, in blocks of F alone). -/
def Does (R : World → (Nat → Prop) → Addr → DiskM.D → Prop) (f : FuncId) (args : Array Value) (ret : Value) (w : World) (F : Nat → Prop) (p : Addr) (M : DiskM.D) : Prop :=
  Calls Try.prog f args w fun e w' => e = .returned ret ∧ (∃ F', R w' F' p M ∧ ∀ k, F' k → F k ∨ w.heap.size ≤ k) ∧ Only F w w'
/-- A call that turns nothing. -/
def Tells (f : FuncId) (args : Array Value) (ret : Value) (w : World) : Prop :=
  Calls Try.prog f args w fun e w' => e = .returned ret ∧ Below w.heap.size w w'
/-- v is a slice of texts that reads as l. -/
def IsTexts (w : World) (v : Value) (l : List (List UInt8)) : Prop := ∃ A c, v = .slice A l.length c ∧ (A = none → c = 0) ∧ l.length ≤ c ∧
  ∀ i (h : i < l.length), ∃ p : Addr, A = some p ∧ p.block < w.heap.size ∧ w.cell? (p.add i) = some (.string ⟨l[i].toArray⟩)
structure DiskOk (R : World → (Nat → Prop) → Addr → DiskM.D → Prop) : Prop where
  keep : ∀ {w w' : World} {F : Nat → Prop} {p : Addr} {M : DiskM.D}, R w F p M → Below w.heap.size w w' → R w' F p M
  new_ : ∀ (n : Nat) (w : World), n ≤ 16777216 → Calls Try.prog 4 #[.int .i64 (n : Int)] w fun e w' => ∃ p F, e = .returned (.tuple #[.pointer (some p), .int .i64 0]) ∧ R w' F p (DiskM.fresh n) ∧ (∀ k, F k → w.heap.size ≤ k) ∧ Below w.heap.size w w'
  bad : ∀ (n : Int) (w : World), n < 0 ∨ 16777216 < n → (Lit.int .i64 n).wf = true → Tells 4 #[.int .i64 n] (.tuple #[.pointer none, .int .i64 7]) w
  append : ∀ {w : World} {F : Nat → Prop} {p : Addr} {M : DiskM.D}, R w F p M → ∀ (s : ByteArray) (A : Option Addr) (b : List UInt8) (c : Nat), b.length ≤ 4096 → (A = none → c = 0) → Bs w w.heap.size A b → M.l.length < 1000 →
    Does R 8 #[.pointer (some p), .string s, .slice A b.length c] (.int .i64 (DiskM.append M s.data.toList b).1) w F p (DiskM.append M s.data.toList b).2
  sync : ∀ {w : World} {F : Nat → Prop} {p : Addr} {M : DiskM.D}, R w F p M → ∀ (s : ByteArray), s.size ≤ maxLen →
    Does R 9 #[.pointer (some p), .string s] (.int .i64 (DiskM.sync M s.data.toList).1) w F p (DiskM.sync M s.data.toList).2
  cut : ∀ {w : World} {F : Nat → Prop} {p : Addr} {M : DiskM.D}, R w F p M → ∀ (s : ByteArray) (n : Int), s.size ≤ maxLen → (Lit.int .i64 n).wf = true →
    Does R 15 #[.pointer (some p), .string s, .int .i64 n] (.int .i64 (DiskM.cut M s.data.toList n).1) w F p (DiskM.cut M s.data.toList n).2
  rename : ∀ {w : World} {F : Nat → Prop} {p : Addr} {M : DiskM.D}, R w F p M → ∀ (s t : ByteArray), s.size ≤ maxLen → t.size ≤ maxLen →
    Does R 17 #[.pointer (some p), .string s, .string t] (.int .i64 (DiskM.rename M s.data.toList t.data.toList).1) w F p (DiskM.rename M s.data.toList t.data.toList).2
  delete : ∀ {w : World} {F : Nat → Prop} {p : Addr} {M : DiskM.D}, R w F p M → ∀ (s : ByteArray), s.size ≤ maxLen →
    Does R 19 #[.pointer (some p), .string s] (.int .i64 (DiskM.delete M s.data.toList).1) w F p (DiskM.delete M s.data.toList).2
  crash : ∀ {w : World} {F : Nat → Prop} {p : Addr} {M : DiskM.D}, R w F p M → ∀ (n : Int) (g : Bool), (Lit.int .i64 n).wf = true →
    Does R 10 #[.pointer (some p), .int .i64 n, .bool g] (.tuple #[]) w F p (DiskM.crash M n g)
  start : ∀ {w : World} {F : Nat → Prop} {p : Addr} {M : DiskM.D}, R w F p M →
    Does R 11 #[.pointer (some p)] (.int .i64 (DiskM.start M).1) w F p (DiskM.start M).2
  room : ∀ {w : World} {F : Nat → Prop} {p : Addr} {M : DiskM.D}, R w F p M → ∀ (n : Int), (Lit.int .i64 n).wf = true →
    Does R 21 #[.pointer (some p), .int .i64 n] (.tuple #[]) w F p (DiskM.room M n)
  read : ∀ {w : World} {F : Nat → Prop} {p : Addr} {M : DiskM.D}, R w F p M → ∀ (s : ByteArray), s.size ≤ maxLen →
    Calls Try.prog 12 #[.pointer (some p), .string s] w fun e w' => (∃ v, e = .returned (.tuple #[v, .int .i64 (DiskM.read M s.data.toList).2]) ∧ IsBytes w' v (DiskM.read M s.data.toList).1) ∧ Below w.heap.size w w'
  names : ∀ {w : World} {F : Nat → Prop} {p : Addr} {M : DiskM.D}, R w F p M →
    Calls Try.prog 25 #[.pointer (some p)] w fun e w' => (∃ v, e = .returned v ∧ IsTexts w' v (DiskM.names M)) ∧ Below w.heap.size w w'
  size : ∀ {w : World} {F : Nat → Prop} {p : Addr} {M : DiskM.D}, R w F p M → ∀ (s : ByteArray), s.size ≤ maxLen → Tells 29 #[.pointer (some p), .string s] (.int .i64 (DiskM.size M s.data.toList : Int)) w
  synced : ∀ {w : World} {F : Nat → Prop} {p : Addr} {M : DiskM.D}, R w F p M → ∀ (s : ByteArray), s.size ≤ maxLen → Tells 30 #[.pointer (some p), .string s] (.int .i64 (DiskM.synced M s.data.toList : Int)) w
  used : ∀ {w : World} {F : Nat → Prop} {p : Addr} {M : DiskM.D}, R w F p M → Tells 26 #[.pointer (some p)] (.int .i64 (DiskM.used M.l : Int)) w

/-- The disk of a law that began in the world w0. -/
def St (R : World → (Nat → Prop) → Addr → DiskM.D → Prop) (w0 w : World) (p : Addr) (M : DiskM.D) : Prop := (∃ F, R w F p M ∧ ∀ k, F k → w0.heap.size ≤ k) ∧ Below w0.heap.size w0 w
theorem St.below {R : World → (Nat → Prop) → Addr → DiskM.D → Prop} {w0 w : World} {p : Addr} {M : DiskM.D} (h : St R w0 w p M) : Below w0.heap.size w0 w := h.2
theorem St.keep {R : World → (Nat → Prop) → Addr → DiskM.D → Prop} (D : DiskOk R) {w0 w w' : World} {p : Addr} {M : DiskM.D} (h : St R w0 w p M) (hb : Below w.heap.size w w') : St R w0 w' p M := by
  obtain ⟨⟨F, hr, hf⟩, hw⟩ := h
  exact ⟨⟨F, D.keep hr hb, hf⟩, below_then hw hb⟩
theorem St.step {R : World → (Nat → Prop) → Addr → DiskM.D → Prop} {w0 w : World} {p : Addr} {M M' : DiskM.D} (h : St R w0 w p M) {f : FuncId} {args : Array Value} {ret : Value} (d : ∀ F, R w F p M → Does R f args ret w F p M') :
    Calls Try.prog f args w fun e w' => e = .returned ret ∧ St R w0 w' p M' := by
  obtain ⟨⟨F, hr, hf⟩, hw⟩ := h
  refine (d F hr).mono ?_
  rintro e w' ⟨he, ⟨F', hr', hf'⟩, ho⟩
  refine ⟨he, ⟨F', hr', fun k hk => ?_⟩, hw.trans (ho.below hf hw.size)⟩
  rcases hf' k hk with x | x
  · exact hf k x
  · exact Nat.le_trans hw.size x
theorem st_new {R : World → (Nat → Prop) → Addr → DiskM.D → Prop} (D : DiskOk R) (n : Nat) (hn : n ≤ 16777216) (w0 w : World) (hw : Below w0.heap.size w0 w) :
    Calls Try.prog 4 #[.int .i64 (n : Int)] w fun e w' => ∃ p, e = .returned (.tuple #[.pointer (some p), .int .i64 0]) ∧ St R w0 w' p (DiskM.fresh n) := by
  refine (D.new_ n w hn).mono ?_
  rintro e w' ⟨p, F, he, hr, hf, hb⟩
  exact ⟨p, he, ⟨F, hr, fun k hk => Nat.le_trans hw.size (hf k hk)⟩, below_then hw hb⟩
end Go.Proofs.Ythclaolmmlgalaa
