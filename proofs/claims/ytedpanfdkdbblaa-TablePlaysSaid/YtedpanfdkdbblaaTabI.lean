/- What the laws on tables ask of package table: that some relation R between memory, the document's table and a number of calls is kept by its calls; and the laws' own check 'told' out of that. -/
import Derived.Test.YtedpanfdkdbblaaFrame
import Derived.Test.YtedpanfdkdbblaaTabM
namespace Go.Proofs.Ytedpanfdkdbblaa
open Go.RowKit
set_option linter.unusedVariables false

/-- R w F p T m: at the address p lies the table T, in blocks of F alone; behind m more calls nothing moves. -/
abbrev TabR := World → (Nat → Prop) → Addr → TabM.T → Nat → Prop
/-- A call that may turn the table. -/
def TDoes (R : TabR) (f : FuncId) (args : Array Value) (ret : Value) (w : World) (F : Nat → Prop) (p : Addr) (T : TabM.T) (good : Nat → Prop) : Prop :=
  Calls Try.prog f args w fun e w' => e = .returned ret ∧ (∃ F' m, R w' F' p T m ∧ good m ∧ ∀ k, F' k → F k ∨ w.heap.size ≤ k) ∧ Only F w w'
def TTells (f : FuncId) (args : Array Value) (w : World) (good : Value → Prop) : Prop :=
  Calls Try.prog f args w fun e w' => (∃ v, e = .returned v ∧ good v) ∧ Below w.heap.size w w'
def pair (n : Int) (b : Bool) : Value := .tuple #[.int .i64 n, .bool b]
/-- v is a slice of texts that reads as l. -/
def TTexts (w : World) (v : Value) (l : List (List UInt8)) : Prop := ∃ A c, v = .slice A l.length c ∧ (A = none → c = 0) ∧ l.length ≤ c ∧
  ∀ i (h : i < l.length), ∃ p : Addr, A = some p ∧ p.block < w.heap.size ∧ w.cell? (p.add i) = some (.string ⟨l[i].toArray⟩)
structure TabOk (R : TabR) : Prop where
  keep : ∀ {w w' : World} {F : Nat → Prop} {p : Addr} {T : TabM.T} {m : Nat}, R w F p T m → Below w.heap.size w w' → R w' F p T m
  rest : ∀ {w : World} {F : Nat → Prop} {p : Addr} {T : TabM.T} {m : Nat}, R w F p T m → m ≤ T.l.length + (16 + 8 * T.great)
  new_ : ∀ (w : World), Calls Try.prog 7 #[] w fun e w' => ∃ p F m, e = .returned (.pointer (some p)) ∧ R w' F p TabM.fresh m ∧ (∀ k, F k → w.heap.size ≤ k) ∧ Below w.heap.size w w'
  put : ∀ {w : World} {F : Nat → Prop} {p : Addr} {T : TabM.T} {m : Nat}, R w F p T m → ∀ (s : ByteArray) (n : Int), s.size ≤ 64 → T.l.length ≤ 1000 →
    TDoes R 17 #[.pointer (some p), .string s, .int .i64 n] (pair (TabM.was T.l s.data.toList) (TabM.is T.l s.data.toList)) w F p (TabM.put T s.data.toList n) (fun _ => True)
  get : ∀ {w : World} {F : Nat → Prop} {p : Addr} {T : TabM.T} {m : Nat}, R w F p T m → ∀ (s : ByteArray), s.size ≤ 64 →
    TDoes R 19 #[.pointer (some p), .string s] (pair (TabM.was T.l s.data.toList) (TabM.is T.l s.data.toList)) w F p T (fun m' => m' ≤ m - 1)
  del : ∀ {w : World} {F : Nat → Prop} {p : Addr} {T : TabM.T} {m : Nat}, R w F p T m → ∀ (s : ByteArray), s.size ≤ 64 →
    TDoes R 20 #[.pointer (some p), .string s] (pair (TabM.was T.l s.data.toList) (TabM.is T.l s.data.toList)) w F p (TabM.del T s.data.toList) (fun _ => True)
  len : ∀ {w : World} {F : Nat → Prop} {p : Addr} {T : TabM.T} {m : Nat}, R w F p T m → TTells 10 #[.pointer (some p)] w fun v => v = .int .i64 (T.l.length : Int)
  names : ∀ {w : World} {F : Nat → Prop} {p : Addr} {T : TabM.T} {m : Nat}, R w F p T m → Calls Try.prog 14 #[.pointer (some p)] w fun e w' => (∃ v l, e = .returned v ∧ TTexts w' v l ∧ l.Perm (TabM.names T) ∧ l.Pairwise (· ≤ ·)) ∧ Below w.heap.size w w'
  slots : ∀ {w : World} {F : Nat → Prop} {p : Addr} {T : TabM.T} {m : Nat}, R w F p T m → TTells 11 #[.pointer (some p)] w fun v => ∃ k : Nat, v = .int .i64 (k : Int) ∧ k ≤ 16 + 8 * T.great
  moving : ∀ {w : World} {F : Nat → Prop} {p : Addr} {T : TabM.T} {m : Nat}, R w F p T m → TTells 21 #[.pointer (some p)] w fun v => v = .bool (decide (0 < m))
  work : ∀ {w : World} {F : Nat → Prop} {p : Addr} {T : TabM.T} {m : Nat}, R w F p T m → TTells 12 #[.pointer (some p)] w fun v => ∃ k : Nat, v = .int .i64 (k : Int) ∧ k ≤ 8
  put0 : ∀ (w : World) (s : ByteArray) (n : Int), TTells 17 #[.pointer none, .string s, .int .i64 n] w fun v => v = pair 0 false
  get0 : ∀ (w : World) (s : ByteArray), TTells 19 #[.pointer none, .string s] w fun v => v = pair 0 false
  del0 : ∀ (w : World) (s : ByteArray), TTells 20 #[.pointer none, .string s] w fun v => v = pair 0 false
  len0 : ∀ (w : World), TTells 10 #[.pointer none] w fun v => v = .int .i64 0
  names0 : ∀ (w : World), TTells 14 #[.pointer none] w fun v => ∃ A c, v = .slice A 0 c
  slots0 : ∀ (w : World), TTells 11 #[.pointer none] w fun v => v = .int .i64 0
  moving0 : ∀ (w : World), TTells 21 #[.pointer none] w fun v => v = .bool false
  work0 : ∀ (w : World), TTells 12 #[.pointer none] w fun v => v = .int .i64 0
/-- The table of a law that began in the world w0. -/
def TSt (R : TabR) (w0 w : World) (p : Addr) (T : TabM.T) (m : Nat) : Prop := (∃ F, R w F p T m ∧ ∀ k, F k → w0.heap.size ≤ k) ∧ Below w0.heap.size w0 w
theorem TSt.keep {R : TabR} (O : TabOk R) {w0 w w' : World} {p : Addr} {T : TabM.T} {m : Nat} (h : TSt R w0 w p T m) (hb : Below w.heap.size w w') : TSt R w0 w' p T m := by
  obtain ⟨⟨F, hr, hf⟩, hw⟩ := h
  exact ⟨⟨F, O.keep hr hb, hf⟩, below_then hw hb⟩
theorem TSt.step {R : TabR} {w0 w : World} {p : Addr} {T T' : TabM.T} {m : Nat} {good : Nat → Prop} (h : TSt R w0 w p T m) {f : FuncId} {args : Array Value} {ret : Value} (d : ∀ F, R w F p T m → TDoes R f args ret w F p T' good) :
    Calls Try.prog f args w fun e w' => e = .returned ret ∧ ∃ m', TSt R w0 w' p T' m' ∧ good m' := by
  obtain ⟨⟨F, hr, hf⟩, hw⟩ := h
  refine (d F hr).mono ?_
  rintro e w' ⟨he, ⟨F', m', hr', hg, hf'⟩, ho⟩
  refine ⟨he, m', ⟨⟨F', hr', fun k hk => ?_⟩, hw.trans (ho.below hf hw.size)⟩, hg⟩
  rcases hf' k hk with x | x
  · exact hf k x
  · exact Nat.le_trans hw.size x
theorem tst_new {R : TabR} (O : TabOk R) (w0 w : World) (hw : Below w0.heap.size w0 w) :
    Calls Try.prog 7 #[] w fun e w' => ∃ p m, e = .returned (.pointer (some p)) ∧ TSt R w0 w' p TabM.fresh m := by
  refine (O.new_ w).mono ?_
  rintro e w' ⟨p, F, m, he, hr, hf, hb⟩
  exact ⟨p, m, he, ⟨F, hr, fun k hk => Nat.le_trans hw.size (hf k hk)⟩, below_then hw hb⟩
theorem told_any {R : TabR} (O : TabOk R) (w : World) :
    Calls Try.prog 8 #[] w fun e w' => e = .returned (.bool true) ∧ Below w.heap.size w w' := by
  have OO := Lib.hid O
  clear O
  go_enter Try.func8, Try.ntmps8
  go_wp2_with fail
  go_at_call 7
  refine (tst_new OO.out w w (Below.refl _ w)).mono ?_
  rintro e w1 ⟨p, m1, rfl, h1⟩
  have H1 := Lib.hid h1
  clear h1
  go_wp2_with fail
  go_at_call 17
  refine (H1.out.step fun F hr => OO.out.put hr ⟨#[97]⟩ 1 (by decide) (by decide)).mono ?_
  rintro e w2 ⟨rfl, m2, h2, -⟩
  have H2 : Hid (TSt R w w2 p ⟨[([97], 1)], 1⟩ m2) := h2
  clear h2
  rw [show pair (TabM.was TabM.fresh.l (⟨#[97]⟩ : ByteArray).data.toList) (TabM.is TabM.fresh.l (⟨#[97]⟩ : ByteArray).data.toList) = .tuple #[.int .i64 0, .bool false] from rfl]
  go_wp2_with fail
  go_at_call 17
  refine (H2.out.step fun F hr => OO.out.put hr ⟨#[97]⟩ 2 (by decide) (by decide)).mono ?_
  rintro e w3 ⟨rfl, m3, h3, -⟩
  have H3 : Hid (TSt R w w3 p ⟨[([97], 2)], 1⟩ m3) := h3
  clear h3
  rw [show pair (TabM.was [([97], 1)] (⟨#[97]⟩ : ByteArray).data.toList) (TabM.is [([97], 1)] (⟨#[97]⟩ : ByteArray).data.toList) = .tuple #[.int .i64 1, .bool true] from rfl]
  go_wp2_with fail
  go_at_call 19
  refine (H3.out.step fun F hr => OO.out.get hr ⟨#[97]⟩ (by decide)).mono ?_
  rintro e w4 ⟨rfl, m4, h4, -⟩
  have H4 := Lib.hid h4
  clear h4
  rw [show pair (TabM.was [([97], 2)] (⟨#[97]⟩ : ByteArray).data.toList) (TabM.is [([97], 2)] (⟨#[97]⟩ : ByteArray).data.toList) = .tuple #[.int .i64 2, .bool true] from rfl]
  go_wp2_with fail
  go_at_call 10
  obtain ⟨⟨F, hr, -⟩, hb4⟩ := H4.out
  refine (OO.out.len hr).mono ?_
  rintro e w5 ⟨⟨v, rfl, rfl⟩, hb5⟩
  go_wp2_with fail
  go_ret
  exact ⟨rfl, below_then hb4 hb5⟩
set_option maxHeartbeats 1000000 in
theorem nobody_walk {R : TabR} (O : TabOk R) (s : ByteArray) (n : Int) (w : World) :
    Calls Try.prog 5 #[.string s, .int .i64 n] w fun e w' => e = .returned (.bool true) ∧ Below w.heap.size w w' := by
  have OO := Lib.hid O
  have TD := Lib.hid (told_any O)
  have HB : Hid (Below w.heap.size w w) := Below.refl _ w
  clear O
  go_enter Try.func5, Try.ntmps5
  go_wp2_with (first
    | (go_at_call 17; refine (OO.out.put0 _ _ _).mono ?_; rintro e w' ⟨⟨v, rfl, rfl⟩, hb⟩; have HB := Lib.hid (below_then HB.out hb); clear hb; rw [show pair 0 false = .tuple #[.int .i64 0, .bool false] from rfl])
    | (go_at_call 19; refine (OO.out.get0 _ _).mono ?_; rintro e w' ⟨⟨v, rfl, rfl⟩, hb⟩; have HB := Lib.hid (below_then HB.out hb); clear hb; rw [show pair 0 false = .tuple #[.int .i64 0, .bool false] from rfl])
    | (go_at_call 20; refine (OO.out.del0 _ _).mono ?_; rintro e w' ⟨⟨v, rfl, rfl⟩, hb⟩; have HB := Lib.hid (below_then HB.out hb); clear hb; rw [show pair 0 false = .tuple #[.int .i64 0, .bool false] from rfl])
    | (go_at_call 10; refine (OO.out.len0 _).mono ?_; rintro e w' ⟨⟨v, rfl, rfl⟩, hb⟩; have HB := Lib.hid (below_then HB.out hb); clear hb)
    | (go_at_call 14; refine (OO.out.names0 _).mono ?_; rintro e w' ⟨⟨v, rfl, A, c, rfl⟩, hb⟩; have HB := Lib.hid (below_then HB.out hb); clear hb)
    | (go_at_call 11; refine (OO.out.slots0 _).mono ?_; rintro e w' ⟨⟨v, rfl, rfl⟩, hb⟩; have HB := Lib.hid (below_then HB.out hb); clear hb)
    | (go_at_call 21; refine (OO.out.moving0 _).mono ?_; rintro e w' ⟨⟨v, rfl, rfl⟩, hb⟩; have HB := Lib.hid (below_then HB.out hb); clear hb)
    | (go_at_call 12; refine (OO.out.work0 _).mono ?_; rintro e w' ⟨⟨v, rfl, rfl⟩, hb⟩; have HB := Lib.hid (below_then HB.out hb); clear hb)
    | (go_at_call 8; refine (TD.out _).mono ?_; rintro e w' ⟨rfl, hb⟩; have HB := Lib.hid (below_then HB.out hb); clear hb))
  go_ret
  exact ⟨rfl, HB.out⟩
end Go.Proofs.Ytedpanfdkdbblaa
