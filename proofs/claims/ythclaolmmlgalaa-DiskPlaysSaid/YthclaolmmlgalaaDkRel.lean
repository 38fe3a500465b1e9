/- The relation between memory and the document's disk that package disk keeps; a file put, a file taken out. -/
import Derived.Test.YthclaolmmlgalaaDkGarble
namespace Go.Proofs.Ythclaolmmlgalaa
open Go.RowKit Go.Maps
set_option linter.unusedVariables false

theorem crashed_any (w : World) (A : Option Addr) (l : List UInt8) (c sy n nn : Nat) (keep : Int) (gb : Bool) (wk : (Lit.int .i64 keep).wf = true) (hA : A = none → c = 0) (hc : l.length ≤ c) (hb : Bs w w.heap.size A l) (hl : l.length ≤ 1073741824) (hs : sy ≤ l.length) (hn : l.length = n)
    (hnn : sy + (max 0 (min keep ((l.length : Int) - sy))).toNat = nn) :
    Calls Try.prog 35 #[.agg #[.slice A n c, .int .i64 sy], .int .i64 keep, .bool gb] w fun e w' => ∃ v, e = .returned (.agg #[v, .int .i64 nn]) ∧ w'.ownsRow w.heap.size 5 1 v nn ((left keep gb l sy).map bv) ∧ Below w.heap.size w w' := by
  rw [left_is keep gb l sy nn hnn]
  cases gb
  · exact crashed_plain w A l c sy n nn keep wk hA hc hb hl hs hn hnn
  · exact crashed_garbled w A l c sy n nn keep wk hA hc hb hl hs hn hnn
/-- Memory holds the disk M: its struct in block g, its map in mo; of the files that E names the bytes' row is not told. -/
structure Dk (w : World) (F : Nat → Prop) (E : List UInt8 → Prop) (g : Nat) (mo : Option Nat) (D : DataW Value) (M : DiskM.D) : Prop where
  bare : Bare w g mo D (M.max : Int) (DiskM.used M.l : Int) M.down
  Fg : F g
  Fm : ∀ b, mo = some b → F b
  keys : ∀ s, has D (.string s) = (DiskM.find M.l s).isSome
  files : ∀ s x, DiskM.find M.l s = some x → ∃ A c, fileAt D s = .agg #[.slice A x.b.length c, .int .i64 (x.sync : Int)] ∧ (¬ E s → w.ownsRow 0 5 1 (.slice A x.b.length c) x.b.length (x.b.map bv))
  mine : ∀ s k, blockOf (fileAt D s) = some k → F k ∧ k ≠ g ∧ mo ≠ some k ∧ k < w.heap.size
  two : ∀ s t k, s ≠ t → blockOf (fileAt D s) = some k → blockOf (fileAt D t) ≠ some k
  cnt : size D = M.l.length
  rises : DiskM.Rises M.l
  few : M.l.length ≤ 1000
  ok : ∀ f, f ∈ M.l → f.name.length ≤ 64 ∧ f.sync ≤ f.b.length
  small : DiskM.used M.l ≤ 16777216
  room : M.max ≤ 16777216
theorem Dk.shape {w : World} {F : Nat → Prop} {E : List UInt8 → Prop} {g : Nat} {mo : Option Nat} {D : DataW Value} {M : DiskM.D} (h : Dk w F E g mo D M) (s : List UInt8) : ∃ A c y, fileAt D s = .agg #[.slice A (DiskM.len M.l s) c, y] := by
  unfold DiskM.len
  cases e : DiskM.find M.l s with
  | none => exact ⟨none, 0, .int .i64 0, fileAt_none (by rw [h.keys, e]; rfl)⟩
  | some x =>
    obtain ⟨A, c, k, _⟩ := h.files s x e
    exact ⟨A, c, _, k⟩
theorem Dk.same {w w' : World} {F : Nat → Prop} {E : List UInt8 → Prop} {g : Nat} {mo : Option Nat} {D : DataW Value} {M : DiskM.D} (h : Dk w F E g mo D M) (hs : w.heap.size ≤ w'.heap.size)
    (k : ∀ b, (b = g ∨ mo = some b ∨ ∃ s, ¬ E s ∧ blockOf (fileAt D s) = some b) → w'.heap[b]? = w.heap[b]?) : Dk w' F E g mo D M :=
  { h with
    bare := h.bare.same hs fun b hb => k b (by rcases hb with x | x; exact .inl x; exact .inr (.inl x))
    files := fun s x e => by
      obtain ⟨A, c, hf, hr⟩ := h.files s x e
      exact ⟨A, c, hf, fun ne => row_same (hr ne) fun b hb => k b (.inr (.inr ⟨s, ne, by rw [hf]; exact hb⟩))⟩
    mine := fun s b e => ⟨(h.mine s b e).1, (h.mine s b e).2.1, (h.mine s b e).2.2.1, Nat.lt_of_lt_of_le (h.mine s b e).2.2.2 hs⟩ }
theorem Dk.low {w : World} {F : Nat → Prop} {E : List UInt8 → Prop} {g : Nat} {mo : Option Nat} {D : DataW Value} {M : DiskM.D} (h : Dk w F E g mo D M) {b : Nat} (hb : b = g ∨ mo = some b ∨ ∃ s, ¬ E s ∧ blockOf (fileAt D s) = some b) : b < w.heap.size := by
  rcases hb with rfl | e | ⟨s, _, e⟩
  · exact h.bare.lt
  · have := h.bare.map
    rw [e] at this
    exact this.lt
  · exact (h.mine s b e).2.2.2
theorem Dk.below {w w' : World} {F : Nat → Prop} {E : List UInt8 → Prop} {g : Nat} {mo : Option Nat} {D : DataW Value} {M : DiskM.D} (h : Dk w F E g mo D M) (hb : Below w.heap.size w w') : Dk w' F E g mo D M :=
  h.same hb.size fun b k => hb.block b (h.low k)
theorem Dk.wide {w : World} {F G : Nat → Prop} {E : List UInt8 → Prop} {g : Nat} {mo : Option Nat} {D : DataW Value} {M : DiskM.D} (h : Dk w F E g mo D M) (k : ∀ b, F b → G b) : Dk w G E g mo D M :=
  { h with Fg := k _ h.Fg, Fm := fun b e => k b (h.Fm b e), mine := fun s b e => ⟨k b (h.mine s b e).1, (h.mine s b e).2⟩ }
theorem Dk.less {w : World} {F : Nat → Prop} {E E' : List UInt8 → Prop} {g : Nat} {mo : Option Nat} {D : DataW Value} {M : DiskM.D} (h : Dk w F E g mo D M) (k : ∀ s, E s → E' s) : Dk w F E' g mo D M :=
  { h with
    files := fun s x e => by
      obtain ⟨A, c, hf, hr⟩ := h.files s x e
      exact ⟨A, c, hf, fun ne => hr fun y => ne (k s y)⟩ }
/-- put, whether there is a map or none. -/
theorem put_any (w : World) (g : Nat) (mo : Option Nat) (D : DataW Value) (r u : Int) (d : Bool) (h : Bare w g mo D r u d) (s : ByteArray) (hs : s.size ≤ maxLen) (hn : size D < maxLen) (A A' : Option Addr) (n c n' c' : Nat) (y : Int) (y' : Value)
    (hf : fileAt D s.data.toList = .agg #[.slice A' n' c', y']) (hu : 0 ≤ u ∧ u ≤ 1099511627776) (hl : n ≤ 1099511627776) (hl' : n' ≤ 1099511627776) :
    Calls Try.prog 33 #[.pointer (some ⟨g, 0, none⟩), .string s, .agg #[.slice A n c, .int .i64 y]] w fun e w' => e = .returned (.tuple #[]) ∧ ∃ mo',
      Bare w' g mo' (D.put (.string s.data.toList) (.held (.agg #[.slice A n c, .int .i64 y]))) r (u + ((n : Int) - n')) d ∧ (∀ b, mo' = some b → mo = some b ∨ (w.heap.size ≤ b ∧ b < w'.heap.size)) ∧ Only (fun k => k = g ∨ mo = some k) w w' := by
  cases mo with
  | some b =>
    refine (put_some w g b D r u d h s hs hn A A' n c n' c' y y' hf hu hl hl').mono ?_
    rintro e w' ⟨he, hb, ho⟩
    exact ⟨he, some b, hb, fun b' e => .inl e, ho.wider fun k hk => hk.imp id fun x => by rw [x]⟩
  | none =>
    have e : D = .map [] := h.map
    subst e
    rw [show fileAt (.map []) s.data.toList = file0 from rfl] at hf
    unfold file0 at hf
    injection hf with hf
    have h0 : n' = 0 := by
      injection hf with hf
      injection hf with h1 h2
      injection h1 with h3 h4
      exact h4.symm
    subst h0
    refine (put_none w g r u d h s hs A n c y hu hl).mono ?_
    rintro e w' ⟨he, b, h1, h2, hb, ho⟩
    refine ⟨he, some b, ?_, fun b' e => .inr ?_, ho.wider fun k hk => .inl hk⟩
    · have : u + ((n : Int) - (0 : Nat)) = u + (n : Int) := by omega
      rw [this]; exact hb
    · injection e with e; subst e; exact ⟨h1, h2⟩
/-- What is new beside F. -/
def New (F : Nat → Prop) (w w' : World) (k : Nat) : Prop := F k ∨ (w.heap.size ≤ k ∧ k < w'.heap.size)
theorem dput {w : World} {F : Nat → Prop} {E : List UInt8 → Prop} {g : Nat} {mo : Option Nat} {D : DataW Value} {M : DiskM.D} (h : Dk w F E g mo D M) (s : ByteArray) (hs : s.size ≤ 64) (hE : ∀ t, E t → t = s.data.toList) (A : Option Addr) (n c : Nat) (b : List UInt8) (sy : Nat) (hb : b.length = n)
    (hrow : w.ownsRow 0 5 1 (.slice A n c) n (b.map bv)) (hF : ∀ k, (Value.slice A n c).ownBlock = some k → F k ∧ k ≠ g ∧ mo ≠ some k ∧ ∀ t, t ≠ s.data.toList → blockOf (fileAt D t) ≠ some k) (hsy : sy ≤ n)
    (hfew : (DiskM.put M.l ⟨s.data.toList, b, sy⟩).length ≤ 1000) (hsm : DiskM.used (DiskM.put M.l ⟨s.data.toList, b, sy⟩) ≤ 16777216) :
    Calls Try.prog 33 #[.pointer (some ⟨g, 0, none⟩), .string s, .agg #[.slice A n c, .int .i64 sy]] w fun e w' => e = .returned (.tuple #[]) ∧
      (∃ mo' D', Dk w' (New F w w') (fun _ => False) g mo' D' { M with l := DiskM.put M.l ⟨s.data.toList, b, sy⟩ }) ∧ Only F w w' := by
  subst hb
  obtain ⟨A', c', y', hf⟩ := h.shape s.data.toList
  have hm : s.size ≤ maxLen := Nat.le_trans hs (by decide)
  have hcnt := h.cnt
  have hfw := h.few
  have hsz : size D < maxLen := by unfold maxLen; omega
  have hle := DiskM.len_le M.l s.data.toList
  have hsmall := h.small
  obtain ⟨hup, hln⟩ := DiskM.used_put (l := M.l) ⟨s.data.toList, b, sy⟩ h.rises
  have hup' : DiskM.used (DiskM.put M.l ⟨s.data.toList, b, sy⟩) + DiskM.len M.l s.data.toList = DiskM.used M.l + b.length := hup
  refine (put_any w g mo D _ _ _ h.bare s hm hsz A A' b.length c _ c' sy y' hf (by omega) (by omega) (by omega)).mono ?_
  rintro e w' ⟨he, mo', hB, hmo, ho⟩
  have hT := h.bare.map.tidy
  have same : ∀ k, k < w.heap.size → k ≠ g → mo ≠ some k → w'.heap[k]? = w.heap[k]? := fun k h1 h2 h3 => ho.block k h1 fun x => by rcases x with x | x; exact h2 x; exact h3 x
  have isF : ∀ k, k = g ∨ mo = some k → F k := fun k hk => by
    rcases hk with rfl | hk
    · exact h.Fg
    · exact h.Fm k hk
  have e1 : (DiskM.used M.l : Int) + ((b.length : Int) - (DiskM.len M.l s.data.toList : Nat)) = (DiskM.used (DiskM.put M.l ⟨s.data.toList, b, sy⟩) : Int) := by omega
  rw [e1] at hB
  have mineN : ∀ k, (Value.slice A b.length c).ownBlock = some k → New F w w' k ∧ k ≠ g ∧ mo' ≠ some k ∧ k < w'.heap.size := fun k hk => by
    obtain ⟨f1, f2, f3, f4⟩ := hF k hk
    have hlt := (row_new hrow hk).2
    refine ⟨.inl f1, f2, fun x => ?_, Nat.lt_of_lt_of_le hlt ho.size⟩
    rcases hmo k x with y | y
    · exact f3 y
    · omega
  have mineO : ∀ t k, blockOf (fileAt D t) = some k → New F w w' k ∧ k ≠ g ∧ mo' ≠ some k ∧ k < w'.heap.size := fun t k hk => by
    obtain ⟨f1, f2, f3, f4⟩ := h.mine t k hk
    refine ⟨.inl f1, f2, fun x => ?_, Nat.lt_of_lt_of_le f4 ho.size⟩
    rcases hmo k x with y | y
    · exact f3 y
    · omega
  refine ⟨he, ⟨mo', _, hB, .inl h.Fg, fun k hk => ?_, fun t => ?_, fun t x hx => ?_, fun t k hk => ?_, fun t t' k hne hk => ?_, ?_, DiskM.rises_put _ h.rises, hfew, fun f hf => ?_, hsm, h.room⟩, ho.wider isF⟩
  · rcases hmo k hk with y | y
    · exact .inl (h.Fm k y)
    · exact .inr y
  · rw [has_put hT, DiskM.find_put]
    by_cases q : s.data.toList = t
    · rw [if_pos q, if_pos q]; rfl
    · rw [if_neg q, if_neg q]; exact h.keys t
  · rw [fileAt_put hT]
    have hx' : (if s.data.toList = t then some (⟨s.data.toList, b, sy⟩ : DiskM.F) else DiskM.find M.l t) = some x := by rw [← hx]; exact (DiskM.find_put M.l ⟨s.data.toList, b, sy⟩ t).symm
    by_cases q : s.data.toList = t
    · rw [if_pos q] at hx' ⊢
      injection hx' with hx'
      subst hx'
      exact ⟨A, c, rfl, fun _ => row_same hrow fun k hk => same k (row_new hrow hk).2 (hF k hk).2.1 (hF k hk).2.2.1⟩
    · rw [if_neg q] at hx' ⊢
      obtain ⟨A2, c2, h1, h2⟩ := h.files t x hx'
      refine ⟨A2, c2, h1, fun _ => row_same (h2 fun y => q (hE t y).symm) fun k hk => ?_⟩
      have := h.mine t k (by rw [h1]; exact hk)
      exact same k this.2.2.2 this.2.1 this.2.2.1
  · rw [fileAt_put hT] at hk
    by_cases q : s.data.toList = t
    · rw [if_pos q] at hk
      exact mineN k hk
    · rw [if_neg q] at hk
      exact mineO t k hk
  · rw [fileAt_put hT] at hk ⊢
    by_cases q : s.data.toList = t
    · rw [if_pos q] at hk
      have q' : s.data.toList ≠ t' := fun z => hne (q.symm.trans z)
      rw [if_neg q']
      exact (hF k hk).2.2.2 t' (Ne.symm q')
    · rw [if_neg q] at hk
      by_cases q' : s.data.toList = t'
      · rw [if_pos q']
        intro z
        exact (hF k z).2.2.2 t (Ne.symm q) hk
      · rw [if_neg q']
        exact h.two t t' k hne hk
  · rw [size_put hT, h.keys, hcnt]
    show _ = (DiskM.put M.l _).length
    rw [hln]
  · rcases DiskM.mem_put hf with y | y
    · rw [y]
      exact ⟨by simpa using hs, hsy⟩
    · exact h.ok f y
end Go.Proofs.Ythclaolmmlgalaa
