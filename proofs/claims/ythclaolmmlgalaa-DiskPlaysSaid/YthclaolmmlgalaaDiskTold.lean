/- The laws' own check 'told' of stage 3, out of what is asked of package disk. -/
import Derived.Test.YthclaolmmlgalaaDiskI
namespace Go.Proofs.Ythclaolmmlgalaa
open Go.RowKit
set_option linter.unusedVariables false

/-- The disk of 'told', call by call. -/
def T1 : DiskM.D := (DiskM.append (DiskM.fresh 10) [102] [97, 98, 99, 100]).2
def T2 : DiskM.D := (DiskM.sync T1 [102]).2
def T3 : DiskM.D := (DiskM.append T2 [102] [101, 102, 103, 104]).2
def T4 : DiskM.D := (DiskM.append T3 [102] [120, 121, 122]).2
def T5 : DiskM.D := DiskM.crash T4 2 false
def T6 : DiskM.D := (DiskM.start T5).2
theorem t1 : (DiskM.append (DiskM.fresh 10) [102] [97, 98, 99, 100]).1 = 0 := by decide
theorem t2 : (DiskM.sync T1 [102]).1 = 0 := by decide
theorem t3 : (DiskM.append T2 [102] [101, 102, 103, 104]).1 = 0 := by decide
theorem t4 : (DiskM.append T3 [102] [120, 121, 122]).1 = 9 := by decide
theorem t6 : (DiskM.start T5).1 = 0 := by decide
theorem t7 : DiskM.read T6 [102] = ([97, 98, 99, 100, 101, 102], 0) := by decide
theorem st_bytes {R : World → (Nat → Prop) → Addr → DiskM.D → Prop} (D : DiskOk R) {w0 w : World} {p : Addr} {M : DiskM.D} (h : St R w0 w p M) (s : ByteArray) (C : Array Value) (fr : Nat × Nat) (b : List UInt8) (c n : Nat) (hn : b.length = n) (hC : C = (b.map bv).toArray) (hl : n ≤ 4096) (hk : M.l.length < 1000) :
    Calls Try.prog 8 #[.pointer (some p), .string s, .slice (some ⟨w.heap.size, 0, none⟩) n c] (w.alloc (.cells C 5 fr)) fun e w' => e = .returned (.int .i64 (DiskM.append M s.data.toList b).1) ∧ St R w0 w' p (DiskM.append M s.data.toList b).2 := by
  subst hn
  have hb : Below w.heap.size w (w.alloc (.cells C 5 fr)) := (Below.refl _ w).alloc (Nat.le_refl _) _
  refine (h.keep D hb).step fun F hr => D.append hr s _ b c hl (fun e => nomatch e) ?_ hk
  exact (Bs.new w C 5 fr b hC).up (by simp)
theorem St.num {R : World → (Nat → Prop) → Addr → DiskM.D → Prop} {w0 w : World} {p : Addr} {M M' : DiskM.D} {r : Int} (h : St R w0 w p M) {f : FuncId} {args : Array Value} {x : Int × DiskM.D} (hr : x.1 = r) (hM : x.2 = M') (d : ∀ F, R w F p M → Does R f args (.int .i64 x.1) w F p x.2) :
    Calls Try.prog f args w fun e w' => e = .returned (.int .i64 r) ∧ St R w0 w' p M' := by
  subst hr hM
  exact h.step d
theorem st_bytes_to {R : World → (Nat → Prop) → Addr → DiskM.D → Prop} (D : DiskOk R) {w0 w : World} {p : Addr} {M M' : DiskM.D} {r : Int} (h : St R w0 w p M) (s : ByteArray) (C : Array Value) (fr : Nat × Nat) (b : List UInt8) (c n : Nat) (hn : b.length = n) (hC : C = (b.map bv).toArray) (hl : n ≤ 4096) (hk : M.l.length < 1000) (hr : (DiskM.append M s.data.toList b).1 = r) (hM : (DiskM.append M s.data.toList b).2 = M') :
    Calls Try.prog 8 #[.pointer (some p), .string s, .slice (some ⟨w.heap.size, 0, none⟩) n c] (w.alloc (.cells C 5 fr)) fun e w' => e = .returned (.int .i64 r) ∧ St R w0 w' p M' := by
  subst hr hM
  exact st_bytes D h s C fr b c n hn hC hl hk
theorem St.read {R : World → (Nat → Prop) → Addr → DiskM.D → Prop} (D : DiskOk R) {w0 w : World} {p : Addr} {M : DiskM.D} (h : St R w0 w p M) (s : ByteArray) (hs : s.size ≤ maxLen) (l : List UInt8) (r : Int) (hx : DiskM.read M s.data.toList = (l, r)) :
    Calls Try.prog 12 #[.pointer (some p), .string s] w fun e w' => ∃ A c, e = .returned (.tuple #[.slice A l.length c, .int .i64 r]) ∧ (A = none → c = 0) ∧ l.length ≤ c ∧ Bs w' w'.heap.size A l ∧ St R w0 w' p M ∧ Below w.heap.size w w' := by
  obtain ⟨F, hr, hf⟩ := h.1
  refine (D.read hr s hs).mono ?_
  rintro e w' ⟨⟨v, he, A, c, hv, hA, hc, hb⟩, hw⟩
  rw [hx] at he hv hc hb
  exact ⟨A, c, by rw [he, hv], hA, hc, hb, h.keep D hw, hw⟩
set_option maxRecDepth 20000 in
set_option maxHeartbeats 2000000 in
theorem told_any {R : World → (Nat → Prop) → Addr → DiskM.D → Prop} (D : DiskOk R) (w : World) :
    Calls Try.prog 5 #[] w fun e w' => e = .returned (.bool true) ∧ Below w.heap.size w w' := by
  have kc := fun (w : World) (C : Array Value) (n c : Nat) => Lib.run_convert_bytes_const (P := Try.prog) w 40 5 C n c Try.underlying40 Try.underlying5
  have DD := Lib.hid D
  clear D
  go_enter Try.func5, Try.ntmps5
  go_wp2_with fail
  go_at_call 4
  refine (st_new DD.out 10 (by omega) w w (Below.refl _ _)).mono ?_
  rintro e w1 ⟨p, rfl, h1⟩
  have S1 := Lib.hid h1
  clear h1
  go_wp2_with fail
  go_at_call 4
  refine (DD.out.bad (-1) w1 (by omega) (by decide)).mono ?_
  rintro e w2 ⟨rfl, hb⟩
  have S2 := Lib.hid (S1.out.keep DD.out hb)
  clear S1 hb
  go_wp2_with fail
  go_at_call 8
  refine (st_bytes_to DD.out S2.out ⟨#[102]⟩ _ _ [97, 98, 99, 100] 4 4 rfl rfl (by decide) (by decide) t1 (rfl : _ = T1)).mono ?_
  rintro e w3 ⟨rfl, h3⟩
  have S3 := Lib.hid h3
  clear S2 h3
  go_wp2_with fail
  go_at_call 9
  refine (S3.out.num t2 (rfl : _ = T2) fun F hr => DD.out.sync hr ⟨#[102]⟩ (by decide)).mono ?_
  rintro e w4 ⟨rfl, h4⟩
  have S4 := Lib.hid h4
  clear S3 h4
  go_wp2_with fail
  go_at_call 8
  refine (st_bytes_to DD.out S4.out ⟨#[102]⟩ _ _ [101, 102, 103, 104] 4 4 rfl rfl (by decide) (by decide) t3 (rfl : _ = T3)).mono ?_
  rintro e w5 ⟨rfl, h5⟩
  have S5 := Lib.hid h5
  clear S4 h5
  go_wp2_with fail
  go_at_call 8
  refine (st_bytes_to DD.out S5.out ⟨#[102]⟩ _ _ [120, 121, 122] 3 3 rfl rfl (by decide) (by decide) t4 (rfl : _ = T4)).mono ?_
  rintro e w6 ⟨rfl, h6⟩
  have S6 := Lib.hid h6
  clear S5 h6
  go_wp2_with fail
  go_at_call 10
  refine (S6.out.step (M' := T5) fun F hr => DD.out.crash hr 2 false (by decide)).mono ?_
  rintro e w7 ⟨rfl, h7⟩
  have S7 := Lib.hid h7
  clear S6 h7
  go_wp2_with fail
  go_at_call 11
  refine (S7.out.num t6 (rfl : _ = T6) fun F hr => DD.out.start hr).mono ?_
  rintro e w8 ⟨rfl, h8⟩
  have S8 := Lib.hid h8
  clear S7 h8
  go_wp2_with fail
  go_at_call 12
  refine (S8.out.read DD.out ⟨#[102]⟩ (by decide) [97, 98, 99, 100, 101, 102] 0 t7).mono ?_
  rintro e w9 ⟨A, c, rfl, -, -, hb9, h9, -⟩
  have S9 := Lib.hid h9
  clear S8 h9
  have cv : (convert 40 9 (.slice A 6 c)).run Try.prog w9 = .ok (.string ⟨#[97, 98, 99, 100, 101, 102]⟩) w9 := convert_bs c hb9
  clear hb9
  go_wp2_with fail
  go_ret
  exact ⟨rfl, S9.out.below⟩
end Go.Proofs.Ythclaolmmlgalaa
