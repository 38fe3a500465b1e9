/- Sets of a law's own; Of; the laws' own check 'told'. -/
import Derived.Test.YtopnbfhkfagemaaDoorSkOk
namespace Go.Proofs.YtopnbfhkfagemaaDoor
open Go.RowKit
set_option linter.unusedVariables false
/-- The set of a law that began in the world w0. -/
def SSt (w0 w : World) (p : Addr) (l : List SkM.E) : Prop := (∃ G, SkRel w G p l ∧ ∀ k, G k → w0.heap.size ≤ k) ∧ Below w0.heap.size w0 w ∧ Tz w0
section
variable {w0 w : World} {p : Addr} {l : List SkM.E}
theorem SSt.below (h : SSt w0 w p l) : Below w0.heap.size w0 w := h.2.1
theorem SSt.keep (h : SSt w0 w p l) {w' : World} (hb : Below w.heap.size w w') : SSt w0 w' p l := by
  obtain ⟨⟨G, hr, hg⟩, hb0, tz⟩ := h
  exact ⟨⟨G, hr.below hb, hg⟩, below_then hb0 hb, tz⟩
theorem SSt.ok (h : SSt w0 w p l) : SkM.Ok l := by obtain ⟨⟨G, hr, hg⟩, -⟩ := h; exact hr.ok
theorem SSt.of_put {w' : World} {l' : List SkM.E} (h : SSt w0 w p l) {G : Nat → Prop} (hg : ∀ k, G k → w0.heap.size ≤ k) (hp : Put w G p l' w') : SSt w0 w' p l' := by
  obtain ⟨⟨G', hr, hg'⟩, ho⟩ := hp
  exact ⟨⟨G', hr, fun k hk => by rcases hg' k hk with x | x; exact hg k x; exact Nat.le_trans h.2.1.size x⟩, h.2.1.trans (ho.below hg h.2.1.size), h.2.2⟩
theorem SSt.put (h : SSt w0 w p l) (s : ByteArray) (hs : s.size ≤ lim) (v : Int) (hl : l.length ≤ 999) :
    Calls Tryd.prog 10 #[.pointer (some p), .string s, .int .i64 v] w fun e w' => e = .returned (.bool (SkM.get l s.data.toList).isNone) ∧ SSt w0 w' p (SkM.put l s.data.toList v) := by
  have h0 := h
  obtain ⟨⟨G, hr, hg⟩, hb0, tz⟩ := h
  refine (put_any hr (tz.below hb0) (fun g => by have := hg _ g; have := tz.lt; omega) hs v hl).mono ?_
  rintro e w' ⟨he, hp⟩
  exact ⟨he, h0.of_put hg hp⟩
theorem SSt.del (h : SSt w0 w p l) (s : ByteArray) (hs : s.size ≤ lim) :
    Calls Tryd.prog 12 #[.pointer (some p), .string s] w fun e w' => e = .returned (.bool (SkM.get l s.data.toList).isSome) ∧ SSt w0 w' p (SkM.del l s.data.toList) := by
  have h0 := h
  obtain ⟨⟨G, hr, hg⟩, hb0, tz⟩ := h
  refine (del_any hr hs).mono ?_
  rintro e w' ⟨he, hp⟩
  exact ⟨he, h0.of_put hg hp⟩
theorem sst_new (w : World) (hb : Below w0.heap.size w0 w) (tz : Tz w0) : Calls Tryd.prog 22 #[] w fun e w' => ∃ p, e = .returned (.pointer (some p)) ∧ SSt w0 w' p [] := by
  refine (new_any w).mono ?_
  rintro e w' ⟨he, hr, hb'⟩
  exact ⟨_, he, ⟨_, hr, fun k hk => by rw [hk]; exact hb.size⟩, below_then hb hb', tz⟩
end
set_option maxRecDepth 20000 in
set_option maxHeartbeats 2000000 in
theorem told_any (w : World) (tz : Tz w) : Calls Tryd.prog 7 #[] w fun e w' => e = .returned (.bool true) ∧ Below w.heap.size w w' := by
  have TZ := Lib.hid tz
  clear tz
  go_enter Tryd.func7, Tryd.ntmps7
  go_wp2_with fail
  go_at_call 22
  refine (sst_new w (Below.refl _ w) TZ.out).mono ?_
  rintro e w1 ⟨p, rfl, h1⟩
  have H1 := Lib.hid h1
  clear h1
  go_wp2_with fail
  go_at_call 10
  refine (H1.out.put ⟨#[97]⟩ (by decide) 5 (by decide)).mono ?_
  rintro e w2 ⟨rfl, h2⟩
  have H2 : Hid (SSt w w2 p [([97], 5)]) := h2
  rw [show (SkM.get [] (⟨#[97]⟩ : ByteArray).data.toList).isNone = true from rfl]
  clear h2
  go_wp2_with fail
  go_at_call 10
  refine (H2.out.put ⟨#[98]⟩ (by decide) 3 (by decide)).mono ?_
  rintro e w3 ⟨rfl, h3⟩
  have H3 : Hid (SSt w w3 p [([98], 3), ([97], 5)]) := h3
  rw [show (SkM.get [([97], 5)] (⟨#[98]⟩ : ByteArray).data.toList).isNone = true from rfl]
  clear h3
  go_wp2_with fail
  go_at_call 18
  obtain ⟨⟨G, hr, hg⟩, -⟩ := H3.out
  refine (rrank hr ⟨#[97]⟩ (by decide)).mono ?_
  rintro e w4 ⟨rfl, hb4⟩
  have H4 := Lib.hid (H3.out.keep hb4)
  rw [show (.tuple #[.int .i64 (if (SkM.get [([98], 3), ([97], 5)] (⟨#[97]⟩ : ByteArray).data.toList).isSome then (SkM.rank [([98], 3), ([97], 5)] (⟨#[97]⟩ : ByteArray).data.toList : Int) else 0), .bool (SkM.get [([98], 3), ([97], 5)] (⟨#[97]⟩ : ByteArray).data.toList).isSome] : Value) = .tuple #[.int .i64 1, .bool true] from rfl]
  clear hr hg hb4
  go_wp2_with fail
  go_at_call 21
  obtain ⟨⟨G, hr, hg⟩, -⟩ := H4.out
  refine (rbelow hr 5).mono ?_
  rintro e w5 ⟨rfl, hb5⟩
  have H5 := Lib.hid (H4.out.keep hb5)
  rw [show (((([([98], 3), ([97], 5)] : List SkM.E).takeWhile fun a => decide (a.2 < 5)).length : Nat) : Int) = 1 from rfl]
  clear hr hg hb5
  go_wp2_with fail
  go_at_call 14
  obtain ⟨⟨G, hr, hg⟩, -⟩ := H5.out
  refine (rlen hr).mono ?_
  rintro e w6 ⟨rfl, hb6⟩
  have H6 := Lib.hid (H5.out.keep hb6)
  rw [show ((([([98], 3), ([97], 5)] : List SkM.E).length : Nat) : Int) = 2 from rfl]
  clear hr hg hb6
  go_wp2_with fail
  go_at_call 10
  refine (H6.out.put ⟨#[97]⟩ (by decide) 1 (by decide)).mono ?_
  rintro e w7 ⟨rfl, h7⟩
  rw [show (SkM.get [([98], 3), ([97], 5)] (⟨#[97]⟩ : ByteArray).data.toList).isNone = false from rfl]
  go_wp2_with fail
  go_ret
  exact ⟨rfl, h7.below⟩
def foldP (l : List SkM.E) : List SkM.E := l.foldl (fun m a => SkM.put m a.1 a.2) []
theorem foldP_take (l : List SkM.E) {i : Nat} (h : i < l.length) : foldP (l.take (i + 1)) = SkM.put (foldP (l.take i)) l[i].1 l[i].2 := by
  unfold foldP
  rw [List.take_succ_eq_append_getElem h, List.foldl_append]
  rfl
theorem foldP_len (l : List SkM.E) : (foldP l).length ≤ l.length := by
  suffices ∀ (l m : List SkM.E), (l.foldl (fun m a => SkM.put m a.1 a.2) m).length ≤ m.length + l.length by
    have := this l []
    simpa [foldP] using this
  intro l
  induction l with
  | nil => intro m; simp
  | cons a r ih =>
    intro m
    have h1 := ih (SkM.put m a.1 a.2)
    have h2 := SkM.put_length m a.1 a.2
    rw [List.foldl_cons, List.length_cons]
    omega
set_option maxRecDepth 20000 in
set_option maxHeartbeats 2000000 in
theorem of_any (w : World) (tz : Tz w) (A : Option Addr) (l : List SkM.E) (n c : Nat) (hn : l.length = n) (hrow : SList w (.slice A n c) l) (h9 : n ≤ 100) (hnm : ∀ y ∈ l, y.1.length ≤ lim) :
    Calls Tryd.prog 8 #[.slice A n c] w fun e w' => ∃ p, e = .returned (.pointer (some p)) ∧ SSt w w' p (foldP l) := by
  have TZ := Lib.hid tz
  obtain ⟨A', c', e1, hA, hc, hr⟩ := hrow
  rw [hn] at e1 hc
  injection e1 with e2 e3 e4
  subst e2; subst e4
  have HR := Lib.hid hr
  have HN := Lib.hid hn
  have HNM := Lib.hid hnm
  have n0 : (0 : Int) ≤ (n : Int) := by omega
  have n9 : (n : Int) ≤ 100 := by omega
  have H9 := Lib.hid h9
  clear tz hA hc hr hn hnm h9 e3
  go_enter Tryd.func8, Tryd.ntmps8
  go_wp2_with fail
  go_at_call 22
  refine (sst_new w (Below.refl _ w) TZ.out).mono ?_
  rintro e w1 ⟨p, rfl, h1⟩
  have H1 := Lib.hid h1
  clear h1
  go_wp2_with fail
  go_loopw [9] (fun i wr => ∃ k : Nat, k ≤ n ∧ i = .int .i64 (k : Int) ∧ SSt w wr p (foldP (l.take k))) (fun i _ => n - (intOf i).toNat)
  case atStart => exact ⟨0, Nat.zero_le _, rfl, H1.out⟩
  case round =>
    obtain ⟨k, hk, rfl, hst⟩ := hrel
    have HST := Lib.hid hst
    have k0 : (0 : Int) ≤ (k : Int) := by omega
    by_cases hlt : k < n
    · have k1 : (k : Int) < (n : Int) := by omega
      have hkl : k < l.length := by rw [HN.out]; exact hlt
      obtain ⟨a, rfl, ha, e0, e1⟩ := HR.out k hkl
      obtain ⟨s, hs⟩ : ∃ s : ByteArray, (⟨(l[k]).1.toArray⟩ : ByteArray) = s := ⟨_, rfl⟩
      obtain ⟨v, hv⟩ : ∃ v, (l[k]).2 = v := ⟨_, rfl⟩
      have sd : s.data.toList = (l[k]).1 := by rw [← hs]
      rw [hs] at e0
      rw [hv] at e1
      replace e0 : wr.cell? (a.add (k * 2)) = some (.string s) := by rw [hst.below.cell (p := a.add (k * 2)) (by rw [add_block]; exact ha)]; exact e0
      replace e1 : wr.cell? ((a.add (k * 2)).add 1) = some (.int .i64 v) := by rw [hst.below.cell (p := (a.add (k * 2)).add 1) (by rw [add_block, add_block]; exact ha)]; exact e1
      have e1' : wr.cell? ⟨(a.add (k * 2)).block, (a.add (k * 2)).off + 1, none⟩ = some (.int .i64 v) := e1
      have SZ : Hid (s.size ≤ lim) := by
        have := HNM.out _ (List.getElem_mem hkl)
        rw [← sd] at this
        exact this
      have LE : Hid ((foldP (l.take k)).length ≤ 999) := by
        show _ ≤ _
        have := foldP_len (l.take k)
        rw [List.length_take] at this
        have := H9.out
        omega
      have al : Below wr.heap.size wr (wr.alloc (.cells #[.string s, .int .i64 v] 30)) := (Below.refl _ wr).alloc (Nat.le_refl _) _
      have HST1 := Lib.hid (hst.keep al)
      have NEXT : Hid (foldP (l.take (k + 1)) = SkM.put (foldP (l.take k)) s.data.toList v) := by show _ = _; rw [foldP_take l hkl, sd, hv]
      clear hst hs hv sd hkl al e1
      go_wp2_with fail
      go_at_call 10
      refine (HST1.out.put s SZ.out v LE.out).mono ?_
      rintro e w2 ⟨rfl, h2⟩
      rw [← NEXT.out] at h2
      have H2 := Lib.hid h2
      clear h2
      go_wp2_with fail
      exact ⟨⟨k + 1, hlt, by go_num, H2.out⟩, by simp [intOf]; omega⟩
    · obtain rfl : k = n := by omega
      clear hlt hk
      go_wp2_with fail
      go_ret
      refine ⟨p, rfl, ?_⟩
      have := HST.out
      rw [← HN.out, List.take_length] at this
      exact this
end Go.Proofs.YtopnbfhkfagemaaDoor
