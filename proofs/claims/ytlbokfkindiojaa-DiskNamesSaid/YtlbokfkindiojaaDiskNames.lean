/- The walk of the law DiskNames, out of what is asked of package disk. -/
import Derived.Test.YtlbokfkindiojaaDiskParts
import Derived.Deep.RegionHeld3
namespace Go.Proofs.Ytlbokfkindiojaa
open Go.RowKit
set_option linter.unusedVariables false

/-- The disk of DiskNames, call by call. -/
def nA (b : List UInt8) (k : Nat) (sync : Nat) : DiskM.D := ⟨[⟨[97], b, sync⟩], 10000, false⟩
def nB (b : List UInt8) (k : Nat) : Bool → DiskM.D
  | true => ⟨[⟨[97], b, k⟩, ⟨[98], [111, 116, 104, 101, 114], 0⟩], 10000, false⟩
  | false => ⟨[⟨[97], b, k⟩], 10000, false⟩
def nC (b : List UInt8) (k : Nat) : Bool → DiskM.D
  | true => ⟨[⟨[97], b, k⟩, ⟨[98], [111, 116, 104, 101, 114], 0⟩, ⟨[99], [103, 111, 110, 101], 0⟩], 10000, false⟩
  | false => ⟨[⟨[97], b, k⟩, ⟨[99], [103, 111, 110, 101], 0⟩], 10000, false⟩
def nD (b : List UInt8) (k : Nat) : DiskM.D := ⟨[⟨[98], b, k⟩, ⟨[99], [103, 111, 110, 101], 0⟩], 10000, false⟩
def nE (b : List UInt8) (k : Nat) : DiskM.D := ⟨[⟨[98], b, k⟩], 10000, false⟩
theorem n1 (a : List UInt8) (h : a.length ≤ 300) : DiskM.append (DiskM.fresh 10000) [97] a = (0, nA a 0 0) :=
  full_new rfl (by decide) (by show (a.length : Int) ≤ 10000 - 0; omega) rfl
theorem n2 (a : List UInt8) : DiskM.sync (nA a 0 0) [97] = (0, nA a 0 a.length) := rfl
theorem n3 (a r : List UInt8) (n : Nat) (h : a.length ≤ 300) (k : r.length ≤ 300) : DiskM.append (nA a 0 n) [97] r = (0, nA (a ++ r) 0 n) :=
  full_old (f := ⟨[97], a, n⟩) rfl (by decide) (by
    have u : DiskM.used (nA a 0 n).l = a.length := by simp [DiskM.used, nA]
    rw [u]; show (r.length : Int) ≤ 10000 - (a.length : Int); omega) rfl
theorem n4 (b : List UInt8) (k : Nat) (h : b.length ≤ 300) : DiskM.append (nA b 0 k) [98] [111, 116, 104, 101, 114] = (0, nB b k true) :=
  full_new rfl (by decide) (by
    have u : DiskM.used (nA b 0 k).l = b.length := by simp [DiskM.used, nA]
    rw [u]; show (5 : Int) ≤ 10000 - (b.length : Int); omega) rfl
theorem n5 (b : List UInt8) (k : Nat) (o : Bool) (h : b.length ≤ 300) : DiskM.append (nB b k o) [99] [103, 111, 110, 101] = (0, nC b k o) := by
  cases o
  · exact full_new rfl (by decide) (by
      have u : DiskM.used (nB b k false).l = b.length := by simp [DiskM.used, nB]
      rw [u]; show (4 : Int) ≤ 10000 - (b.length : Int); omega) rfl
  · exact full_new rfl (by decide) (by
      have u : DiskM.used (nB b k true).l = b.length + 5 := by simp [DiskM.used, nB]
      rw [u]; show (4 : Int) ≤ 10000 - ((b.length + 5 : Nat) : Int); omega) rfl
theorem n6 (b : List UInt8) (k : Nat) (o : Bool) : DiskM.rename (nC b k o) [97] [98] = (0, nD b k) := by
  cases o <;> rfl
theorem n7 (b : List UInt8) (k : Nat) : DiskM.delete (nD b k) [99] = (0, nE b k) := rfl
theorem n8 (b : List UInt8) (k : Nat) : DiskM.rename (nE b k) [97] [120] = (25, nE b k) := rfl
def nF (b : List UInt8) (n : Nat) (down : Bool) : DiskM.D := ⟨[⟨[98], b.take n, n⟩], 10000, down⟩
theorem n9 (b : List UInt8) (k : Nat) (keep : Int) : DiskM.crash (nE b k) keep false = nF b (k + (max 0 (min keep ((b.length : Int) - k))).toNat) true := rfl
theorem n10 (b : List UInt8) (n : Nat) : DiskM.start (nF b n true) = (0, nF b n false) := rfl
set_option maxRecDepth 20000 in
set_option maxHeartbeats 4000000 in
theorem names_walk {R : World → (Nat → Prop) → Addr → DiskM.D → Prop} (D : DiskOk R) (A : Option Addr) (b : List UInt8) (cb : Nat) (t keep : Int) (other : Bool) (k : Nat) (hA : A = none → cb = 0) (hc : b.length ≤ cb) (w : World) (hb : Bs w w.heap.size A b) (lb : b.length ≤ 300) (wk : (Lit.int .i64 keep).wf = true)
    (hk : k ≤ b.length) (ht : wrap64 ((IntKind.u64.wrap t).tmod ((b.length : Int) + 1)) = (k : Int)) :
    Calls Try.prog 7 #[.slice A b.length cb, .int .i64 t, .int .i64 keep, .bool other] w fun e w' => e = .returned (.bool true) ∧ Below w.heap.size w w' := by
  have kc := fun (w : World) (C : Array Value) (n c : Nat) => Lib.run_convert_bytes_const (P := Try.prog) w 39 5 C n c Try.underlying39 Try.underlying5
  have DD := Lib.hid D
  have HA := Lib.hid hA
  have KB := Lib.hid hb
  clear D hA hb
  have k1 : (0 : Int) ≤ (k : Int) := by omega
  have k2 : (k : Int) ≤ (b.length : Int) := by omega
  have k3 : (k : Int) ≤ (cb : Int) := by omega
  have k4 : (b.length : Int) ≤ (cb : Int) := by omega
  have L1 : Hid ((b.take k).length = k ∧ (b.drop k).length = b.length - k ∧ k ≤ 300 ∧ b.length - k ≤ 300) := by
    show (b.take k).length = k ∧ (b.drop k).length = b.length - k ∧ k ≤ 300 ∧ b.length - k ≤ 300
    rw [List.length_take, List.length_drop]; omega
  have KF := Lib.hid (KB.out.front k)
  obtain ⟨A', c', HR⟩ : ∃ (A' : Option Addr) (c' : Nat), Hid ((A' = none → c' = 0) ∧ Bs w w.heap.size A' (b.drop k) ∧ ∀ W : World, (Instr.slice 39 (.slice A b.length cb) (some (.int .i64 (k : Int))) none none).run Try.prog W = .ok (.slice A' (b.length - k) c') W) := ⟨_, _, ⟨rest_none HA.out, KB.out.rest k cb hk hc, fun W => slice_from W A b.length cb k hk hc⟩⟩
  have hsl := HR.out.2.2
  obtain ⟨m, HM⟩ : ∃ m, Hid (m = k + (max 0 (min keep ((b.length : Int) - k))).toNat) := ⟨_, rfl⟩
  have MB : Hid (m ≤ b.length) := by
    show m ≤ b.length
    have := HM.out
    omega
  have ML : Hid ((b.take m).length = m) := by
    show (b.take m).length = m
    have := MB.out
    rw [List.length_take]; omega
  have MU : Hid (DiskM.used (nF b m false).l = m) := by
    show DiskM.used (nF b m false).l = m
    have := ML.out
    have u : DiskM.used (nF b m false).l = (b.take m).length := by simp only [DiskM.used, nF, List.map_cons, List.map_nil, List.sum_cons, List.sum_nil, Nat.add_zero]
    rw [u, this]
  have KM := Lib.hid (KB.out.front m)
  cases other
  · go_enter Try.func7, Try.ntmps7
    go_wp2_with fail
    go_at_call 8
    refine (st_new DD.out 10000 (by omega) w w (Below.refl _ _)).mono ?_
    rintro e w1 ⟨p, rfl, h1⟩
    have S1 := Lib.hid h1
    clear h1
    go_wp2_with fail
    go_at_call 12
    refine (st_append_to DD.out S1.out ⟨#[97]⟩ A (b.take k) k cb L1.out.1 (by omega) HA.out (KF.out.later S1.out.below) (by decide : 0 < 1000) (n1 _ (by rw [L1.out.1]; exact L1.out.2.2.1))).mono ?_
    rintro e w2 ⟨rfl, h2⟩
    have S2 := Lib.hid h2
    clear S1 h2
    go_wp2_with fail
    go_at_call 13
    refine (S2.out.num (congrArg Prod.fst (n2 _)) (congrArg Prod.snd (n2 _)) fun F hr => DD.out.sync hr ⟨#[97]⟩ (by decide)).mono ?_
    rintro e w3 ⟨rfl, h3⟩
    have S3 := Lib.hid h3
    clear S2 h3
    go_wp2_with fail
    go_at_call 12
    refine (st_append_to DD.out S3.out ⟨#[97]⟩ A' (b.drop k) (b.length - k) c' L1.out.2.1 (by omega) HR.out.1 (HR.out.2.1.later S3.out.below) (by decide : 1 < 1000) (n3 _ _ _ (by rw [L1.out.1]; exact L1.out.2.2.1) (by rw [L1.out.2.1]; exact L1.out.2.2.2))).mono ?_
    rintro e w4 ⟨rfl, h4⟩
    rw [List.take_append_drop, L1.out.1] at h4
    have S4 := Lib.hid h4
    clear S3 h4
    have S5 : Hid (St R w w4 p (nB b k false)) := S4
    clear S4
    go_wp2_with fail
    go_at_call 12
    refine (st_bytes_to DD.out S5.out ⟨#[99]⟩ _ _ [103, 111, 110, 101] 4 4 rfl rfl (by decide) (by decide : 1 < 1000) (congrArg Prod.fst (n5 b k false lb)) (congrArg Prod.snd (n5 b k false lb))).mono ?_
    rintro e w6 ⟨rfl, h6⟩
    have S6 := Lib.hid h6
    clear S5 h6
    go_wp2_with fail
    go_at_call 21
    refine (S6.out.num (congrArg Prod.fst (n6 b k false)) (congrArg Prod.snd (n6 b k false)) fun F hr => DD.out.rename hr ⟨#[97]⟩ ⟨#[98]⟩ (by decide) (by decide)).mono ?_
    rintro e w7 ⟨rfl, h7⟩
    have S7 := Lib.hid h7
    clear S6 h7
    go_wp2_with fail
    go_at_call 22
    refine (S7.out.num (congrArg Prod.fst (n7 b k)) (congrArg Prod.snd (n7 b k)) fun F hr => DD.out.delete hr ⟨#[99]⟩ (by decide)).mono ?_
    rintro e w8 ⟨rfl, h8⟩
    have S8 := Lib.hid h8
    clear S7 h8
    go_wp2_with fail
    go_at_call 21
    refine (S8.out.num (congrArg Prod.fst (n8 b k)) (congrArg Prod.snd (n8 b k)) fun F hr => DD.out.rename hr ⟨#[97]⟩ ⟨#[120]⟩ (by decide) (by decide)).mono ?_
    rintro e w9 ⟨rfl, h9⟩
    have S9 := Lib.hid h9
    clear S8 h9
    go_wp2_with fail
    go_at_call 14
    refine (S9.out.step (M' := nF b m true) fun F hr => by rw [HM.out, ← n9 b k keep]; exact DD.out.crash hr keep false wk).mono ?_
    rintro e w10 ⟨rfl, h10⟩
    have S10 := Lib.hid h10
    clear S9 h10
    go_wp2_with fail
    go_at_call 16
    refine (S10.out.num (congrArg Prod.fst (n10 b m)) (congrArg Prod.snd (n10 b m)) fun F hr => DD.out.start hr).mono ?_
    rintro e w11 ⟨rfl, h11⟩
    have S11 := Lib.hid h11
    clear S10 h11
    go_wp2_with fail
    go_at_call 20
    refine (S11.out.names DD.out [[98]] 1 rfl rfl).mono ?_
    rintro e w12 ⟨A12, c12, rfl, h12, -, hn⟩
    obtain ⟨q, rfl, qb, qc⟩ := hn 0 (by decide)
    have S12 := Lib.hid h12
    have QC := Lib.hid qc
    clear S11 h12 hn qc
    go_wp2_with fail
    go_at_call 15
    refine (S12.out.read_to DD.out ⟨#[98]⟩ (by decide) (b.take m) 0 m ML.out rfl).mono ?_
    rintro e w13 ⟨A13, c13, rfl, -, -, hb13, h13, hw13⟩
    have S13 := Lib.hid h13
    have HB13 := Lib.hid hb13
    have QD : Hid (w13.cell? (q.add 0) = some (.string ⟨#[98]⟩)) := by
      show w13.cell? (q.add 0) = _
      rw [hw13.cell (by rw [add_block]; exact qb)]
      exact QC.out
    have QL := Lib.hid (Nat.lt_of_lt_of_le qb hw13.size)
    have HS : Hid (∀ W : World, Below w13.heap.size w13 W → Below w13.heap.size w13 W ∧ W.cell? q = some (.string ⟨#[98]⟩) ∧ (convert 39 9 (.slice A13 m c13)).run Try.prog W = .ok (.string ⟨(b.take m).toArray⟩) W ∧ (convert 39 9 (.slice A m cb)).run Try.prog W = .ok (.string ⟨(b.take m).toArray⟩) W) := fun W hW => ⟨hW, by rw [hW.cell QL.out]; have h := QD.out; rwa [show q.add 0 = q by simp [Addr.add]] at h, convert_n c13 m ML.out (HB13.out.later hW), convert_n cb m ML.out (KM.out.later (below_then S13.out.below hW))⟩
    have HT : Hid (∀ W W' : World, (Below w13.heap.size w13 W ∧ W.cell? q = some (.string ⟨#[98]⟩) ∧ (convert 39 9 (.slice A13 m c13)).run Try.prog W = .ok (.string ⟨(b.take m).toArray⟩) W ∧ (convert 39 9 (.slice A m cb)).run Try.prog W = .ok (.string ⟨(b.take m).toArray⟩) W) → Below W.heap.size W W' → (Below w13.heap.size w13 W' ∧ W'.cell? q = some (.string ⟨#[98]⟩) ∧ (convert 39 9 (.slice A13 m c13)).run Try.prog W' = .ok (.string ⟨(b.take m).toArray⟩) W' ∧ (convert 39 9 (.slice A m cb)).run Try.prog W' = .ok (.string ⟨(b.take m).toArray⟩) W')) := fun W W' h k => HS.out W' (below_then h.1 k)
    have HD : Hid (∀ W : World, (Below w13.heap.size w13 W ∧ W.cell? q = some (.string ⟨#[98]⟩) ∧ (convert 39 9 (.slice A13 m c13)).run Try.prog W = .ok (.string ⟨(b.take m).toArray⟩) W ∧ (convert 39 9 (.slice A m cb)).run Try.prog W = .ok (.string ⟨(b.take m).toArray⟩) W) → (Below w13.heap.size w13 W.drew ∧ W.drew.cell? q = some (.string ⟨#[98]⟩) ∧ (convert 39 9 (.slice A13 m c13)).run Try.prog W.drew = .ok (.string ⟨(b.take m).toArray⟩) W.drew ∧ (convert 39 9 (.slice A m cb)).run Try.prog W.drew = .ok (.string ⟨(b.take m).toArray⟩) W.drew)) := fun W h => HS.out W.drew h.1.drew
    have HP : Hid (∀ W : World, (Below w13.heap.size w13 W ∧ W.cell? q = some (.string ⟨#[98]⟩) ∧ (convert 39 9 (.slice A13 m c13)).run Try.prog W = .ok (.string ⟨(b.take m).toArray⟩) W ∧ (convert 39 9 (.slice A m cb)).run Try.prog W = .ok (.string ⟨(b.take m).toArray⟩) W) → St R w W p (nF b m false)) := fun W h => S13.out.keep DD.out h.1
    have HB : Hid (∀ W : World, (Below w13.heap.size w13 W ∧ W.cell? q = some (.string ⟨#[98]⟩) ∧ (convert 39 9 (.slice A13 m c13)).run Try.prog W = .ok (.string ⟨(b.take m).toArray⟩) W ∧ (convert 39 9 (.slice A m cb)).run Try.prog W = .ok (.string ⟨(b.take m).toArray⟩) W) → Below w.heap.size w W) := fun W h => below_then S13.out.below h.1
    have m1 : (0 : Int) ≤ (m : Int) := by omega
    have m2 : (m : Int) ≤ (b.length : Int) := by have := MB.out; omega
    have m3 : (m : Int) ≤ (cb : Int) := by have := MB.out; omega
    clear S12 h13 hb13 hw13 qb QC QD QL HB13
    go_wp2_with fail
    all_goals (rename_i h0; first | rw [if_pos (by assumption)] at h0 | rw [if_neg (by assumption)] at h0 | skip)
    all_goals first
      | (rw [show ((k : Int) + keep) = (m : Int) by have := HM.out; omega])
      | (rw [show ((k : Int) + ((b.length : Int) - (k : Int))) = (m : Int) by have := HM.out; omega])
      | (rw [show (k : Int) = (m : Int) by have := HM.out; omega])
      | (exfalso; have := HM.out; omega)
      | skip
    all_goals
      go_region_held3 (fun W => Below w13.heap.size w13 W ∧ W.cell? q = some (.string ⟨#[98]⟩) ∧ (convert 39 9 (.slice A13 m c13)).run Try.prog W = .ok (.string ⟨(b.take m).toArray⟩) W ∧ (convert 39 9 (.slice A m cb)).run Try.prog W = .ok (.string ⟨(b.take m).toArray⟩) W) (first | exact HS.out _ (Below.refl _ _).drew | exact HT.out _ _ (by assumption) (by assumption) | exact HD.out _ (by assumption) | assumption) (first
        | (go_at_call 9; refine (told_any DD.out _).mono ?_; rintro e w' ⟨rfl, hb⟩)
        | (go_at_call 23; with_reducible refine ((HP.out _ (by assumption)).size_b DD.out ⟨#[97]⟩ (by decide) 0 rfl).mono ?_; rintro e w' ⟨rfl, hb⟩)
        | (go_at_call 19; with_reducible refine ((HP.out _ (by assumption)).used_b DD.out m MU.out).mono ?_; rintro e w' ⟨rfl, hb⟩))
    all_goals go_wp2_with fail
    all_goals (go_ret; exact ⟨rfl, HB.out _ (by assumption)⟩)
  · go_enter Try.func7, Try.ntmps7
    go_wp2_with fail
    go_at_call 8
    refine (st_new DD.out 10000 (by omega) w w (Below.refl _ _)).mono ?_
    rintro e w1 ⟨p, rfl, h1⟩
    have S1 := Lib.hid h1
    clear h1
    go_wp2_with fail
    go_at_call 12
    refine (st_append_to DD.out S1.out ⟨#[97]⟩ A (b.take k) k cb L1.out.1 (by omega) HA.out (KF.out.later S1.out.below) (by decide : 0 < 1000) (n1 _ (by rw [L1.out.1]; exact L1.out.2.2.1))).mono ?_
    rintro e w2 ⟨rfl, h2⟩
    have S2 := Lib.hid h2
    clear S1 h2
    go_wp2_with fail
    go_at_call 13
    refine (S2.out.num (congrArg Prod.fst (n2 _)) (congrArg Prod.snd (n2 _)) fun F hr => DD.out.sync hr ⟨#[97]⟩ (by decide)).mono ?_
    rintro e w3 ⟨rfl, h3⟩
    have S3 := Lib.hid h3
    clear S2 h3
    go_wp2_with fail
    go_at_call 12
    refine (st_append_to DD.out S3.out ⟨#[97]⟩ A' (b.drop k) (b.length - k) c' L1.out.2.1 (by omega) HR.out.1 (HR.out.2.1.later S3.out.below) (by decide : 1 < 1000) (n3 _ _ _ (by rw [L1.out.1]; exact L1.out.2.2.1) (by rw [L1.out.2.1]; exact L1.out.2.2.2))).mono ?_
    rintro e w4 ⟨rfl, h4⟩
    rw [List.take_append_drop, L1.out.1] at h4
    have S4 := Lib.hid h4
    clear S3 h4
    go_wp2_with fail
    go_at_call 12
    refine (st_bytes_to DD.out S4.out ⟨#[98]⟩ _ _ [111, 116, 104, 101, 114] 5 5 rfl rfl (by decide) (by decide : 1 < 1000) (congrArg Prod.fst (n4 b k lb)) (congrArg Prod.snd (n4 b k lb))).mono ?_
    rintro e w5 ⟨rfl, h5⟩
    have S5 := Lib.hid h5
    clear S4 h5
    go_wp2_with fail
    go_at_call 12
    refine (st_bytes_to DD.out S5.out ⟨#[99]⟩ _ _ [103, 111, 110, 101] 4 4 rfl rfl (by decide) (by decide : 2 < 1000) (congrArg Prod.fst (n5 b k true lb)) (congrArg Prod.snd (n5 b k true lb))).mono ?_
    rintro e w6 ⟨rfl, h6⟩
    have S6 := Lib.hid h6
    clear S5 h6
    go_wp2_with fail
    go_at_call 21
    refine (S6.out.num (congrArg Prod.fst (n6 b k true)) (congrArg Prod.snd (n6 b k true)) fun F hr => DD.out.rename hr ⟨#[97]⟩ ⟨#[98]⟩ (by decide) (by decide)).mono ?_
    rintro e w7 ⟨rfl, h7⟩
    have S7 := Lib.hid h7
    clear S6 h7
    go_wp2_with fail
    go_at_call 22
    refine (S7.out.num (congrArg Prod.fst (n7 b k)) (congrArg Prod.snd (n7 b k)) fun F hr => DD.out.delete hr ⟨#[99]⟩ (by decide)).mono ?_
    rintro e w8 ⟨rfl, h8⟩
    have S8 := Lib.hid h8
    clear S7 h8
    go_wp2_with fail
    go_at_call 21
    refine (S8.out.num (congrArg Prod.fst (n8 b k)) (congrArg Prod.snd (n8 b k)) fun F hr => DD.out.rename hr ⟨#[97]⟩ ⟨#[120]⟩ (by decide) (by decide)).mono ?_
    rintro e w9 ⟨rfl, h9⟩
    have S9 := Lib.hid h9
    clear S8 h9
    go_wp2_with fail
    go_at_call 14
    refine (S9.out.step (M' := nF b m true) fun F hr => by rw [HM.out, ← n9 b k keep]; exact DD.out.crash hr keep false wk).mono ?_
    rintro e w10 ⟨rfl, h10⟩
    have S10 := Lib.hid h10
    clear S9 h10
    go_wp2_with fail
    go_at_call 16
    refine (S10.out.num (congrArg Prod.fst (n10 b m)) (congrArg Prod.snd (n10 b m)) fun F hr => DD.out.start hr).mono ?_
    rintro e w11 ⟨rfl, h11⟩
    have S11 := Lib.hid h11
    clear S10 h11
    go_wp2_with fail
    go_at_call 20
    refine (S11.out.names DD.out [[98]] 1 rfl rfl).mono ?_
    rintro e w12 ⟨A12, c12, rfl, h12, -, hn⟩
    obtain ⟨q, rfl, qb, qc⟩ := hn 0 (by decide)
    have S12 := Lib.hid h12
    have QC := Lib.hid qc
    clear S11 h12 hn qc
    go_wp2_with fail
    go_at_call 15
    refine (S12.out.read_to DD.out ⟨#[98]⟩ (by decide) (b.take m) 0 m ML.out rfl).mono ?_
    rintro e w13 ⟨A13, c13, rfl, -, -, hb13, h13, hw13⟩
    have S13 := Lib.hid h13
    have HB13 := Lib.hid hb13
    have QD : Hid (w13.cell? (q.add 0) = some (.string ⟨#[98]⟩)) := by
      show w13.cell? (q.add 0) = _
      rw [hw13.cell (by rw [add_block]; exact qb)]
      exact QC.out
    have QL := Lib.hid (Nat.lt_of_lt_of_le qb hw13.size)
    have HS : Hid (∀ W : World, Below w13.heap.size w13 W → Below w13.heap.size w13 W ∧ W.cell? q = some (.string ⟨#[98]⟩) ∧ (convert 39 9 (.slice A13 m c13)).run Try.prog W = .ok (.string ⟨(b.take m).toArray⟩) W ∧ (convert 39 9 (.slice A m cb)).run Try.prog W = .ok (.string ⟨(b.take m).toArray⟩) W) := fun W hW => ⟨hW, by rw [hW.cell QL.out]; have h := QD.out; rwa [show q.add 0 = q by simp [Addr.add]] at h, convert_n c13 m ML.out (HB13.out.later hW), convert_n cb m ML.out (KM.out.later (below_then S13.out.below hW))⟩
    have HT : Hid (∀ W W' : World, (Below w13.heap.size w13 W ∧ W.cell? q = some (.string ⟨#[98]⟩) ∧ (convert 39 9 (.slice A13 m c13)).run Try.prog W = .ok (.string ⟨(b.take m).toArray⟩) W ∧ (convert 39 9 (.slice A m cb)).run Try.prog W = .ok (.string ⟨(b.take m).toArray⟩) W) → Below W.heap.size W W' → (Below w13.heap.size w13 W' ∧ W'.cell? q = some (.string ⟨#[98]⟩) ∧ (convert 39 9 (.slice A13 m c13)).run Try.prog W' = .ok (.string ⟨(b.take m).toArray⟩) W' ∧ (convert 39 9 (.slice A m cb)).run Try.prog W' = .ok (.string ⟨(b.take m).toArray⟩) W')) := fun W W' h k => HS.out W' (below_then h.1 k)
    have HD : Hid (∀ W : World, (Below w13.heap.size w13 W ∧ W.cell? q = some (.string ⟨#[98]⟩) ∧ (convert 39 9 (.slice A13 m c13)).run Try.prog W = .ok (.string ⟨(b.take m).toArray⟩) W ∧ (convert 39 9 (.slice A m cb)).run Try.prog W = .ok (.string ⟨(b.take m).toArray⟩) W) → (Below w13.heap.size w13 W.drew ∧ W.drew.cell? q = some (.string ⟨#[98]⟩) ∧ (convert 39 9 (.slice A13 m c13)).run Try.prog W.drew = .ok (.string ⟨(b.take m).toArray⟩) W.drew ∧ (convert 39 9 (.slice A m cb)).run Try.prog W.drew = .ok (.string ⟨(b.take m).toArray⟩) W.drew)) := fun W h => HS.out W.drew h.1.drew
    have HP : Hid (∀ W : World, (Below w13.heap.size w13 W ∧ W.cell? q = some (.string ⟨#[98]⟩) ∧ (convert 39 9 (.slice A13 m c13)).run Try.prog W = .ok (.string ⟨(b.take m).toArray⟩) W ∧ (convert 39 9 (.slice A m cb)).run Try.prog W = .ok (.string ⟨(b.take m).toArray⟩) W) → St R w W p (nF b m false)) := fun W h => S13.out.keep DD.out h.1
    have HB : Hid (∀ W : World, (Below w13.heap.size w13 W ∧ W.cell? q = some (.string ⟨#[98]⟩) ∧ (convert 39 9 (.slice A13 m c13)).run Try.prog W = .ok (.string ⟨(b.take m).toArray⟩) W ∧ (convert 39 9 (.slice A m cb)).run Try.prog W = .ok (.string ⟨(b.take m).toArray⟩) W) → Below w.heap.size w W) := fun W h => below_then S13.out.below h.1
    have m1 : (0 : Int) ≤ (m : Int) := by omega
    have m2 : (m : Int) ≤ (b.length : Int) := by have := MB.out; omega
    have m3 : (m : Int) ≤ (cb : Int) := by have := MB.out; omega
    clear S12 h13 hb13 hw13 qb QC QD QL HB13
    go_wp2_with fail
    all_goals (rename_i h0; first | rw [if_pos (by assumption)] at h0 | rw [if_neg (by assumption)] at h0 | skip)
    all_goals first
      | (rw [show ((k : Int) + keep) = (m : Int) by have := HM.out; omega])
      | (rw [show ((k : Int) + ((b.length : Int) - (k : Int))) = (m : Int) by have := HM.out; omega])
      | (rw [show (k : Int) = (m : Int) by have := HM.out; omega])
      | (exfalso; have := HM.out; omega)
      | skip
    all_goals
      go_region_held3 (fun W => Below w13.heap.size w13 W ∧ W.cell? q = some (.string ⟨#[98]⟩) ∧ (convert 39 9 (.slice A13 m c13)).run Try.prog W = .ok (.string ⟨(b.take m).toArray⟩) W ∧ (convert 39 9 (.slice A m cb)).run Try.prog W = .ok (.string ⟨(b.take m).toArray⟩) W) (first | exact HS.out _ (Below.refl _ _).drew | exact HT.out _ _ (by assumption) (by assumption) | exact HD.out _ (by assumption) | assumption) (first
        | (go_at_call 9; refine (told_any DD.out _).mono ?_; rintro e w' ⟨rfl, hb⟩)
        | (go_at_call 23; with_reducible refine ((HP.out _ (by assumption)).size_b DD.out ⟨#[97]⟩ (by decide) 0 rfl).mono ?_; rintro e w' ⟨rfl, hb⟩)
        | (go_at_call 19; with_reducible refine ((HP.out _ (by assumption)).used_b DD.out m MU.out).mono ?_; rintro e w' ⟨rfl, hb⟩))
    all_goals go_wp2_with fail
    all_goals (go_ret; exact ⟨rfl, HB.out _ (by assumption)⟩)
theorem names_long {R : World → (Nat → Prop) → Addr → DiskM.D → Prop} (D : DiskOk R) (A : Option Addr) (n cb : Nat) (t keep : Int) (other : Bool) (w : World) (lb : 300 < n) (hm : n ≤ maxLen) :
    Calls Try.prog 7 #[.slice A n cb, .int .i64 t, .int .i64 keep, .bool other] w fun e w' => e = .returned (.bool true) ∧ Below w.heap.size w w' := by
  have DD := Lib.hid D
  unfold maxLen at *
  clear D
  have l1 : (300 : Int) < (n : Int) := by omega
  go_enter Try.func7, Try.ntmps7
  go_wp2_with fail
  go_at_call 9
  refine (told_any DD.out w).mono ?_
  rintro e w1 ⟨rfl, h1⟩
  go_wp2_with fail
  go_ret
  exact ⟨rfl, h1⟩
theorem names_law {R : World → (Nat → Prop) → Addr → DiskM.D → Prop} (D : DiskOk R) (A : Option Addr) (b : List UInt8) (cb : Nat) (t keep : Int) (other : Bool) (hA : A = none → cb = 0) (hc : b.length ≤ cb) (w : World) (hb : Bs w w.heap.size A b) (lb : b.length ≤ maxLen) (wk : (Lit.int .i64 keep).wf = true) :
    Calls Try.prog 7 #[.slice A b.length cb, .int .i64 t, .int .i64 keep, .bool other] w fun e w' => e = .returned (.bool true) ∧ Below w.heap.size w w' := by
  by_cases h : b.length ≤ 300
  · obtain ⟨k, hk, ht⟩ := mod_len t b.length (by omega)
    exact names_walk D A b cb t keep other k hA hc w hb h wk hk ht
  · exact names_long D A b.length cb t keep other w (by omega) lb
end Go.Proofs.Ytlbokfkindiojaa
