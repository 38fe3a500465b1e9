/- Both disks side by side: package disk's at p, the document's in block g; the blocks of K are of neither, and stay. -/
import Derived.Test.YthclaolmmlgalaaDiskOk
import Derived.Test.YthclaolmmlgalaaRefCrash
namespace Go.Proofs.Ythclaolmmlgalaa
open Go.RowKit Go.Maps
set_option linter.unusedVariables false

theorem DiskR.same {w w' : World} {F : Nat → Prop} {p : Addr} {M : DiskM.D} (h : DiskR w F p M) (hs : w.heap.size ≤ w'.heap.size) (k : ∀ b, b < w.heap.size → F b → w'.heap[b]? = w.heap[b]?) : DiskR w' F p M := by
  obtain ⟨g, mo, D, hp, hd⟩ := h
  refine ⟨g, mo, D, hp, hd.same hs fun b hb => k b (hd.low hb) ?_⟩
  rcases hb with rfl | e | ⟨s, _, e⟩
  · exact hd.Fg
  · exact hd.Fm b e
  · exact (hd.mine s b e).1
theorem DiskR.tight {w : World} {F : Nat → Prop} {p : Addr} {M : DiskM.D} (h : DiskR w F p M) : DiskR w (fun k => F k ∧ k < w.heap.size) p M := by
  obtain ⟨g, mo, D, hp, hd⟩ := h
  exact ⟨g, mo, D, hp, { hd with
    Fg := ⟨hd.Fg, hd.bare.lt⟩
    Fm := fun b e => ⟨hd.Fm b e, hd.low (.inr (.inl e))⟩
    mine := fun s k e => ⟨⟨(hd.mine s k e).1, (hd.mine s k e).2.2.2⟩, (hd.mine s k e).2⟩ }⟩
theorem DiskR.rises {w : World} {F : Nat → Prop} {p : Addr} {M : DiskM.D} (h : DiskR w F p M) : DiskM.Rises M.l := by
  obtain ⟨g, mo, D, hp, hd⟩ := h; exact hd.rises
theorem DiskR.few {w : World} {F : Nat → Prop} {p : Addr} {M : DiskM.D} (h : DiskR w F p M) : M.l.length ≤ 1000 := by
  obtain ⟨g, mo, D, hp, hd⟩ := h; exact hd.few
theorem DiskR.ok {w : World} {F : Nat → Prop} {p : Addr} {M : DiskM.D} (h : DiskR w F p M) : ∀ f ∈ M.l, f.name.length ≤ 64 ∧ f.sync ≤ f.b.length := by
  obtain ⟨g, mo, D, hp, hd⟩ := h; exact fun f hf => hd.ok f hf
theorem DiskR.small {w : World} {F : Nat → Prop} {p : Addr} {M : DiskM.D} (h : DiskR w F p M) : DiskM.used M.l ≤ 16777216 := by
  obtain ⟨g, mo, D, hp, hd⟩ := h; exact hd.small
theorem DiskR.room {w : World} {F : Nat → Prop} {p : Addr} {M : DiskM.D} (h : DiskR w F p M) : M.max ≤ 16777216 := by
  obtain ⟨g, mo, D, hp, hd⟩ := h; exact hd.room
theorem RD.same {w w' : World} {g h : Nat} {M : DiskM.D} (R : RD w g h M) (hs : w.heap.size ≤ w'.heap.size) (kg : w'.heap[g]? = w.heap[g]?) (kh : h < w.heap.size → w'.heap[h]? = w.heap[h]?) :
    ∃ h', RD w' g h' M ∧ ((h' = h ∧ h < w.heap.size) ∨ h' = w'.heap.size) := by
  have cg : ∀ i, w'.cell? ⟨g, i, none⟩ = w.cell? ⟨g, i, none⟩ := fun i => World.cell?_of_block kg
  have fg : ∀ i, w'.frozen? ⟨g, i, none⟩ = w.frozen? ⟨g, i, none⟩ := fun i => World.frozen?_of_block kg
  obtain ⟨A, c, c0, hc, hA⟩ := R.l
  rcases Nat.lt_or_ge h w.heap.size with hlt | hge
  · have ch : ∀ i, w'.cell? ⟨h, i, none⟩ = w.cell? ⟨h, i, none⟩ := fun i => World.cell?_of_block (kh hlt)
    have fh : ∀ i, w'.frozen? ⟨h, i, none⟩ = w.frozen? ⟨h, i, none⟩ := fun i => World.frozen?_of_block (kh hlt)
    refine ⟨h, ⟨R.ne, ⟨fun _ => Nat.lt_of_lt_of_le hlt hs, fun i hi => ?_⟩, Nat.lt_of_lt_of_le R.lt hs, ⟨A, c, (cg 0).trans c0, hc, hA⟩, (cg 1).trans R.max, (cg 2).trans R.down, fun i => (fg i).trans (R.free i), R.few, R.small, fun k => absurd k (by omega)⟩, .inl ⟨rfl, hlt⟩⟩
    obtain ⟨x, y, z, q⟩ := R.row.2 i hi
    exact ⟨(ch _).trans x, (ch _).trans y, (ch _).trans z, fun j => (fh j).trans (q j)⟩
  · have e0 : M.l.length = 0 := by
      rcases Nat.eq_zero_or_pos M.l.length with e | e
      · exact e
      · have := R.row.1 e; omega
    have c00 := R.real hge
    refine ⟨w'.heap.size, ⟨by have := R.lt; omega, ⟨fun k => by omega, fun i hi => absurd hi (by omega)⟩, Nat.lt_of_lt_of_le R.lt hs, ⟨none, 0, ?_, by omega, .inl ⟨rfl, rfl⟩⟩, (cg 1).trans R.max, (cg 2).trans R.down, fun i => (fg i).trans (R.free i), R.few, R.small, fun _ => (cg 0).trans c00⟩, .inr rfl⟩
    rw [cg 0, c00, e0]
/-- Both disks; K: blocks that are of neither. -/
def Duo (K : Nat → Prop) (w : World) (p : Addr) (g : Nat) (M N : DiskM.D) : Prop :=
  ∃ F h, DiskR w F p M ∧ RD w g h N ∧ (∀ k, F k → k < w.heap.size ∧ k ≠ g ∧ k ≠ h ∧ ¬ K k) ∧ ¬ K g ∧ ¬ K h ∧ (∀ k, K k → k < w.heap.size)
theorem Duo.d_step {K : Nat → Prop} {w : World} {p : Addr} {g : Nat} {M M' N : DiskM.D} (D : Duo K w p g M N) {f : FuncId} {args : Array Value} {ret : Value} (d : ∀ F, DiskR w F p M → Does DiskR f args ret w F p M') :
    Calls Try.prog f args w fun e w' => e = .returned ret ∧ Duo K w' p g M' N ∧ Only (fun k => ¬ K k) w w' := by
  obtain ⟨F, h, hd, hx, hF, Kg, Kh, hK⟩ := D
  refine (d F hd).mono ?_
  rintro e w' ⟨he, ⟨F', hd', hF'⟩, ho⟩
  obtain ⟨h', hx', hh⟩ := hx.same ho.size (ho.block g hx.lt fun f => (hF g f).2.1 rfl) (fun hl => ho.block h hl fun f => (hF h f).2.2.1 rfl)
  refine ⟨he, ⟨_, h', hd'.tight, hx', ?_, Kg, ?_, fun k hk => Nat.lt_of_lt_of_le (hK k hk) ho.size⟩, ho.wider fun k hk => (hF k hk).2.2.2⟩
  · rintro k ⟨hk, hl⟩
    refine ⟨hl, ?_, ?_, ?_⟩
    · rcases hF' k hk with x | x
      · exact (hF k x).2.1
      · have := hx.lt; omega
    · rcases hh with ⟨rfl, hlt⟩ | rfl
      · rcases hF' k hk with x | x
        · exact (hF k x).2.2.1
        · omega
      · omega
    · rcases hF' k hk with x | x
      · exact (hF k x).2.2.2
      · exact fun y => by have := hK k y; omega
  · rcases hh with ⟨rfl, -⟩ | rfl
    · exact Kh
    · exact fun y => by have := hK _ y; have := ho.size; omega
theorem Duo.x_step {K : Nat → Prop} {w : World} {p : Addr} {g : Nat} {M N N' : DiskM.D} (D : Duo K w p g M N) {f : FuncId} {args : Array Value} {ret : Value} (d : ∀ h, RD w g h N → RDoes f args ret w g h N') :
    Calls Try.prog f args w fun e w' => e = .returned ret ∧ Duo K w' p g M N' ∧ Only (fun k => ¬ K k) w w' := by
  obtain ⟨F, h, hd, hx, hF, Kg, Kh, hK⟩ := D
  refine (d h hx).mono ?_
  rintro e w' ⟨he, ⟨h', hx', hh⟩, ho⟩
  have hd' := hd.same ho.size fun b hb fb => ho.block b hb (by rintro (x | x); exact (hF b fb).2.1 x; exact (hF b fb).2.2.1 x)
  refine ⟨he, ⟨F, h', hd', hx', ?_, Kg, ?_, fun k hk => Nat.lt_of_lt_of_le (hK k hk) ho.size⟩, ho.wider ?_⟩
  · intro k hk
    refine ⟨Nat.lt_of_lt_of_le (hF k hk).1 ho.size, (hF k hk).2.1, ?_, (hF k hk).2.2.2⟩
    rcases hh with rfl | x
    · exact (hF k hk).2.2.1
    · have := (hF k hk).1; omega
  · rcases hh with rfl | x
    · exact Kh
    · exact fun y => by have := hK _ y; omega
  · rintro k (rfl | rfl)
    · exact Kg
    · exact Kh
theorem Duo.keep {K : Nat → Prop} {w w' : World} {p : Addr} {g : Nat} {M N : DiskM.D} (D : Duo K w p g M N) (hb : Below w.heap.size w w') : Duo K w' p g M N := by
  obtain ⟨F, h, hd, hx, hF, Kg, Kh, hK⟩ := D
  obtain ⟨h', hx', hh⟩ := hx.same hb.size (hb.block g hx.lt) (fun hl => hb.block h hl)
  refine ⟨F, h', disk_keep hd hb, hx', fun k hk => ⟨Nat.lt_of_lt_of_le (hF k hk).1 hb.size, (hF k hk).2.1, ?_, (hF k hk).2.2.2⟩, Kg, ?_, fun k hk => Nat.lt_of_lt_of_le (hK k hk) hb.size⟩
  · rcases hh with ⟨rfl, -⟩ | rfl
    · exact (hF k hk).2.2.1
    · have := (hF k hk).1; have := hb.size; omega
  · rcases hh with ⟨rfl, -⟩ | rfl
    · exact Kh
    · exact fun y => by have := hK _ y; have := hb.size; omega
/-- A new block beside. -/
theorem Duo.with_ {K : Nat → Prop} {w w' : World} {p : Addr} {g : Nat} {M N : DiskM.D} (D : Duo K w p g M N) (hb : Below w.heap.size w w') (b : Nat) (hb1 : w.heap.size ≤ b) (hb2 : b < w'.heap.size) : Duo (fun k => K k ∨ k = b) w' p g M N := by
  obtain ⟨F, h, hd, hx, hF, Kg, Kh, hK⟩ := D
  obtain ⟨h', hx', hh⟩ := hx.same hb.size (hb.block g hx.lt) (fun hl => hb.block h hl)
  refine ⟨F, h', disk_keep hd hb, hx', fun k hk => ⟨Nat.lt_of_lt_of_le (hF k hk).1 hb.size, (hF k hk).2.1, ?_, ?_⟩, ?_, ?_, ?_⟩
  · rcases hh with ⟨rfl, -⟩ | rfl
    · exact (hF k hk).2.2.1
    · have := (hF k hk).1; have := hb.size; omega
  · rintro (x | x)
    · exact (hF k hk).2.2.2 x
    · have := (hF k hk).1; omega
  · rintro (x | x)
    · exact Kg x
    · have := hx.lt; omega
  · rcases hh with ⟨rfl, hl⟩ | rfl
    · rintro (x | x)
      · exact Kh x
      · omega
    · rintro (x | x)
      · have := hK _ x; have := hb.size; omega
      · omega
  · rintro k (x | x)
    · exact Nat.lt_of_lt_of_le (hK k x) hb.size
    · omega
theorem Duo.less {K K' : Nat → Prop} {w : World} {p : Addr} {g : Nat} {M N : DiskM.D} (D : Duo K w p g M N) (s : ∀ k, K' k → K k) : Duo K' w p g M N := by
  obtain ⟨F, h, hd, hx, hF, Kg, Kh, hK⟩ := D
  exact ⟨F, h, hd, hx, fun k hk => ⟨(hF k hk).1, (hF k hk).2.1, (hF k hk).2.2.1, fun y => (hF k hk).2.2.2 (s k y)⟩, fun y => Kg (s _ y), fun y => Kh (s _ y), fun k hk => hK k (s k hk)⟩
theorem Duo.drew {K : Nat → Prop} {w : World} {p : Addr} {g : Nat} {M N : DiskM.D} (D : Duo K w p g M N) : Duo K w.drew p g M N := D.keep (Below.refl _ w).drew
/-- A call of package disk's that only looks. -/
theorem Duo.looks {K : Nat → Prop} {w : World} {p : Addr} {g : Nat} {M N : DiskM.D} (D : Duo K w p g M N) {f : FuncId} {args : Array Value} {ret : Value} (d : ∀ F, DiskR w F p M → Tells f args ret w) : Tells f args ret w := by
  obtain ⟨F, h, hd, _⟩ := D
  exact d F hd
/-- What both are for sure. -/
theorem Duo.facts {K : Nat → Prop} {w : World} {p : Addr} {g : Nat} {M N : DiskM.D} (D : Duo K w p g M N) : DiskM.Rises M.l ∧ M.l.length ≤ 1000 ∧ (∀ f ∈ M.l, f.name.length ≤ 64 ∧ f.sync ≤ f.b.length) ∧ DiskM.used M.l ≤ 16777216 ∧ M.max ≤ 16777216 := by
  obtain ⟨F, h, hd, _⟩ := D
  exact ⟨hd.rises, hd.few, hd.ok, hd.small, hd.room⟩
theorem Duo.xfacts {K : Nat → Prop} {w : World} {p : Addr} {g : Nat} {M N : DiskM.D} (D : Duo K w p g M N) : ∃ h, RD w g h N := by
  obtain ⟨F, h, _, hx, _⟩ := D
  exact ⟨h, hx⟩
end Go.Proofs.Ythclaolmmlgalaa
