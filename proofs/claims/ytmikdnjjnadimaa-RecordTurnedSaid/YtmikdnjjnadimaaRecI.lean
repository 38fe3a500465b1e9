/- What the laws on records ask of package record: Frame gives the document's frame, Scan the document's bodies and their bytes; and the laws' own check 'told' out of that. -/
import Derived.Test.YtmikdnjjnadimaaBytes
import Derived.Test.YtmikdnjjnadimaaRecM
import Derived.Lib.SlBytesConst
namespace Go.Proofs.Ytmikdnjjnadimaa
open Go.RowKit
set_option linter.unusedVariables false

/-- v is a slice of slices of bytes that reads as ls. -/
def IsLists (w : World) (v : Value) (ls : List (List UInt8)) : Prop := ∃ A c, v = .slice A ls.length c ∧ (A = none → c = 0) ∧ ls.length ≤ c ∧
  ∀ i (h : i < ls.length), ∃ (p : Addr) (u : Value), A = some p ∧ p.block < w.heap.size ∧ w.cell? (p.add i) = some u ∧ IsBytes w u ls[i]
structure RecOk : Prop where
  frame : ∀ (A : Option Addr) (b : List UInt8) (c B : Nat) (w : World), b.length ≤ 1048576 → (A = none → c = 0) → Bs w B A b → B ≤ w.heap.size →
    Calls Try.prog 10 #[.slice A b.length c] w fun e w' => (∃ v, e = .returned (.tuple #[v, .int .i64 0]) ∧ IsBytes w' v (Rec.fr b)) ∧ Below w.heap.size w w'
  great : ∀ (A : Option Addr) (b : List UInt8) (c B : Nat) (w : World), 1048576 < b.length → b.length ≤ 2097152 → Bs w B A b → B ≤ w.heap.size →
    Calls Try.prog 10 #[.slice A b.length c] w fun e w' => (∃ v, e = .returned (.tuple #[v, .int .i64 8]) ∧ IsBytes w' v []) ∧ Below w.heap.size w w'
  scan : ∀ (A : Option Addr) (b : List UInt8) (c B : Nat) (w : World), b.length ≤ 2097152 → (A = none → c = 0) → b.length ≤ c → Bs w B A b → B ≤ w.heap.size →
    Calls Try.prog 13 #[.slice A b.length c] w fun e w' => (∃ v, e = .returned (.tuple #[v, .int .i64 ((Rec.scan b).2 : Int)]) ∧ IsLists w' v (Rec.scan b).1) ∧ Below w.heap.size w w'

/-- Frame, at a slice whose length is told apart. -/
theorem frame_at (R : RecOk) (A : Option Addr) (b : List UInt8) (n c B : Nat) (w : World) (hn : b.length = n) (h1 : n ≤ 1048576) (hA : A = none → c = 0) (h : Bs w B A b) (hB : B ≤ w.heap.size) :
    Calls Try.prog 10 #[.slice A n c] w fun e w' => (∃ A' c', e = .returned (.tuple #[.slice A' (n + 8) c', .int .i64 0]) ∧ (A' = none → c' = 0) ∧ n + 8 ≤ c' ∧ Bs w' w'.heap.size A' (Rec.fr b)) ∧ Below w.heap.size w w' := by
  subst hn
  refine (R.frame A b c B w h1 hA h hB).mono ?_
  rintro e w' ⟨⟨v, rfl, A', c', rfl, hA', hc', hr⟩, hb⟩
  rw [Rec.fr_length] at hc' 
  refine ⟨⟨A', c', by rw [Rec.fr_length, Nat.add_comm 8], hA', by omega, hr⟩, hb⟩
theorem great_at (R : RecOk) (A : Option Addr) (b : List UInt8) (n c B : Nat) (w : World) (hn : b.length = n) (h1 : 1048576 < n) (h2 : n ≤ 2097152) (h : Bs w B A b) (hB : B ≤ w.heap.size) :
    Calls Try.prog 10 #[.slice A n c] w fun e w' => (∃ A' c', e = .returned (.tuple #[.slice A' 0 c', .int .i64 8])) ∧ Below w.heap.size w w' := by
  subst hn
  refine (R.great A b c B w h1 h2 h hB).mono ?_
  rintro e w' ⟨⟨v, rfl, A', c', rfl, -⟩, hb⟩
  exact ⟨⟨A', c', rfl⟩, hb⟩
/-- Scan, at a slice whose length is told apart, what it finds given. -/
theorem scan_at (R : RecOk) (A : Option Addr) (b : List UInt8) (n c B : Nat) (w : World) (ls : List (List UInt8)) (k m : Nat) (hs : Rec.scan b = (ls, k)) (hm : ls.length = m) (hn : b.length = n) (h1 : n ≤ 2097152) (hA : A = none → c = 0) (hc : n ≤ c) (h : Bs w B A b) (hB : B ≤ w.heap.size) :
    Calls Try.prog 13 #[.slice A n c] w fun e w' => (∃ A' c', e = .returned (.tuple #[.slice A' m c', .int .i64 (k : Int)]) ∧ (A' = none → c' = 0) ∧ m ≤ c' ∧
      ∀ i (h : i < ls.length), ∃ (p : Addr) (u : Value), A' = some p ∧ p.block < w'.heap.size ∧ w'.cell? (p.add i) = some u ∧ IsBytes w' u ls[i]) ∧ Below w.heap.size w w' := by
  subst hn hm
  have q := R.scan A b c B w h1 hA hc h hB
  rw [hs] at q
  refine q.mono ?_
  rintro e w' ⟨⟨v, rfl, A', c', rfl, hA', hc', hr⟩, hb⟩
  exact ⟨⟨A', c', rfl, hA', hc', hr⟩, hb⟩
set_option maxHeartbeats 1000000 in
theorem told_any (R : RecOk) (w : World) :
    Calls Try.prog 9 #[] w fun e w' => e = .returned (.bool true) ∧ Below w.heap.size w w' := by
  have kc := fun (w : World) (C : Array Value) (n c : Nat) => Lib.run_convert_bytes_const (P := Try.prog) w 23 5 C n c Try.underlying23 Try.underlying5
  have RR := Lib.hid R
  clear R
  have hs : Hid (Rec.scan (Rec.fr [97]) = ([[97]], 9)) := by
    show Rec.scan (Rec.fr [97]) = ([[97]], 9)
    have h := Rec.scan_fr [97] [] (by decide)
    rw [List.append_nil, Rec.scan_nil] at h
    exact h
  go_enter Try.func9, Try.ntmps9
  go_wp2_with fail
  go_at_call 10
  refine (frame_at RR.out (some ⟨w.heap.size, 0, none⟩) [97] 1 _ (w.heap.size + 1) _ rfl (by decide) (fun e => nomatch e) (Bs.new _ _ _ _ _ rfl) (by simp)).mono ?_
  rintro e w1 ⟨⟨A1, c1, rfl, hA1, hc1, hr1⟩, hb1⟩
  have HA1 := Lib.hid hA1
  have HR1 := Lib.hid hr1
  clear hA1 hr1
  go_wp2_with fail
  go_at_call 13
  refine (scan_at RR.out A1 (Rec.fr [97]) _ c1 _ _ [[97]] 9 1 hs.out rfl (Rec.fr_length _) (by decide) HA1.out hc1 HR1.out (Nat.le_refl _)).mono ?_
  rintro e w2 ⟨⟨A2, c2, rfl, hA2, hc2, hr2⟩, hb2⟩
  obtain ⟨p, u, rfl, hp, hu, A3, c3, rfl, hA3, hc3, hr3⟩ := hr2 0 (by decide)
  have cv := convert_n c3 1 rfl hr3
  clear hr3 hr2 hA3 kc
  have p0 : p.add 0 = p := by simp [Addr.add]
  rw [p0] at hu
  go_wp2_with fail
  go_ret
  exact ⟨rfl, below_then (((Below.refl _ w).alloc (Nat.le_refl _) _).trans (hb1.mono (by simp))) hb2⟩
end Go.Proofs.Ytmikdnjjnadimaa
