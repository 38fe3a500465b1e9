/- The laws' own check of a few texts: it holds. -/
import Derived.Test.YtikbgkndfmcfhaaDoorLxL
import Derived.Test.YtikbgkndfmcfhaaDoorLxNm
namespace Go.Proofs.YtikbgkndfmcfhaaDoor
open Go.RowKit
set_option linter.unusedVariables false
theorem lexS_go (n : Nat) (l l1 : List UInt8) (t : LxM.T) (r : List UInt8) (h : LxM.sk false l = l1) (k : LxM.tk l1 = some (t, r)) : LxM.lexS n l = (LxM.lexS n r).pre [{ t with at_ := n - l1.length }] := by
  show LxM.lexT n (LxM.sk false l) = _
  rw [h, LxM.lexT_ok _ _ _ _ k]
theorem lexS_end (n : Nat) (l : List UInt8) (h : LxM.sk false l = []) : LxM.lexS n l = .ok [⟨0, [], 0, n⟩] := by
  show LxM.lexT n (LxM.sk false l) = _
  rw [h, LxM.lexT_nil]
theorem lexS_no (n : Nat) (l l1 : List UInt8) (h : LxM.sk false l = l1) (hne : l1 ≠ []) (k : LxM.tk l1 = none) : LxM.lexS n l = .bad (n - l1.length) := by
  show LxM.lexT n (LxM.sk false l) = _
  rw [h, LxM.lexT_bad _ _ hne k]
def told1 : List LxM.T := [⟨2, [120], 0, 0⟩, ⟨5, [46, 46], 0, 1⟩, ⟨3, [], 1, 3⟩, ⟨0, [], 0, 4⟩]
theorem lex_told1 : LxM.lex [120, 46, 46, 49] = .ok told1 := by
  show LxM.lexS 4 [120, 46, 46, 49] = _
  rw [lexS_go 4 [120, 46, 46, 49] [120, 46, 46, 49] ⟨2, [120], 0, 0⟩ [46, 46, 49] (by decide) (by decide), lexS_go 4 [46, 46, 49] [46, 46, 49] ⟨5, [46, 46], 0, 0⟩ [49] (by decide) (by decide), lexS_go 4 [49] [49] ⟨3, [], 1, 0⟩ [] (by decide) (by decide), lexS_end 4 [] (by decide)]
  rfl
theorem lex_told2 : LxM.lex [97, 32, 36] = .bad 2 := by
  show LxM.lexS 3 [97, 32, 36] = _
  rw [lexS_go 3 [97, 32, 36] [97, 32, 36] ⟨2, [97], 0, 0⟩ [32, 36] (by decide) (by decide), lexS_no 3 [32, 36] [36] (by decide) (by decide) (by decide)]
  rfl
theorem TRow.at_ {w : World} {base : Nat} {v : Value} {l : List LxM.T} (h : TRow w base v l) (hne : l ≠ []) : ∃ g cap, v = .slice (some ⟨g, 0, none⟩) l.length cap ∧ base ≤ g ∧ g < w.heap.size ∧ l.length ≤ cap ∧ ∀ i u, (tcells l)[i]? = some u → w.cell? ⟨g, i, none⟩ = some u := by
  have h' := h
  unfold TRow at h'
  rcases h'.2 with ⟨rfl, h0⟩ | ⟨g, cap, cur, rfl, hg, hb, hc, _, hs, ht⟩
  · exact absurd (List.eq_nil_of_length_eq_zero h0) hne
  · exact ⟨g, cap, rfl, hg, (Array.getElem?_eq_some_iff.1 hb).1, hc, fun i u hu => by
      have := h'.cells (g := g) rfl i u hu
      rwa [show (⟨g, 0, none⟩ : Addr).add i = ⟨g, i, none⟩ by unfold Addr.add; split <;> simp_all] at this⟩
set_option maxRecDepth 20000 in
set_option maxHeartbeats 2000000 in
theorem told_any (W : World) (er : Er W) :
    Calls Tryd.prog 8 #[] W fun e W' => e = .returned (.bool true) ∧ Below W.heap.size W W' := by
  have L1 := Lib.hid (lex_any W ⟨#[120, 46, 46, 49]⟩ (by decide) er)
  have L2 := Lib.hid (fun W1 (h : Er W1) => lex_any W1 ⟨#[97, 32, 36]⟩ (by decide) h)
  have W1 := fun w => word_any ⟨#[101, 110, 100]⟩ w
  have N1 := fun w => name_any ⟨#[120]⟩ w (by decide)
  have N2 := fun w => name_any ⟨#[101, 110, 100]⟩ w (by decide)
  rw [show LxM.isWord (⟨#[101, 110, 100]⟩ : ByteArray).data.toList = true by decide] at W1
  rw [show LxM.isName (⟨#[120]⟩ : ByteArray).data.toList = true by decide] at N1
  rw [show LxM.isName (⟨#[101, 110, 100]⟩ : ByteArray).data.toList = false by decide] at N2
  have ER := Lib.hid er
  clear er
  go_enter Tryd.func8, Tryd.ntmps8
  go_wp2_with fail
  go_at_call 9
  refine L1.out.mono ?_
  rintro e w1 ⟨⟨tv, err, p, rfl, hm⟩, b1⟩
  rw [show LxM.lex (⟨#[120, 46, 46, 49]⟩ : ByteArray).data.toList = .ok told1 from lex_told1] at hm
  obtain ⟨rfl, rfl, row⟩ := hm
  obtain ⟨g, cap, rfl, hg, hgl, hcap, hc⟩ := row.at_ (by decide)
  have B1 := Lib.hid b1
  have HC := Lib.hid hc
  have HG := Lib.hid hgl
  have HCAP := Lib.hid hcap
  have E1 := Lib.hid (ER.out.below b1 ER.out.two)
  clear b1 row hc hg hgl hcap
  go_wp2_with fail
  go_at_call 9
  refine (L2.out _ E1.out).mono ?_
  rintro e w2 ⟨⟨tv2, err, p, rfl, hm⟩, b2⟩
  rw [show LxM.lex (⟨#[97, 32, 36]⟩ : ByteArray).data.toList = .bad 2 from lex_told2] at hm
  obtain ⟨rfl, rfl, rfl⟩ := hm
  have B2 := Lib.hid b2
  have x1 : w2.cell? ⟨g, 5, none⟩ = some (.string ⟨#[46, 46]⟩) := by rw [b2.cell (p := ⟨g, 5, none⟩) HG.out]; exact HC.out 5 _ rfl
  have x2 : w2.cell? ⟨g, 10, none⟩ = some (.int .i64 1) := by rw [b2.cell (p := ⟨g, 10, none⟩) HG.out]; exact HC.out 10 _ rfl
  have i1 : (told1.length : Int) = 4 := rfl
  clear b2
  go_wp2_with (first
    | (go_at_call 12; refine (W1 _).mono ?_; rintro e w' ⟨rfl, rfl⟩)
    | (go_at_call 14; with_reducible refine (N1 _).mono ?_; rintro e w' ⟨rfl, rfl⟩)
    | (go_at_call 14; with_reducible refine (N2 _).mono ?_; rintro e w' ⟨rfl, rfl⟩))
  go_ret
  exact ⟨rfl, (B1.out.trans (B2.out.mono B1.out.size))⟩
end Go.Proofs.YtikbgkndfmcfhaaDoor
