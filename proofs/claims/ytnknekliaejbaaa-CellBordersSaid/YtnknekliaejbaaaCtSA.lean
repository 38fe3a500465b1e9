/- Package cell: tables of string in memory: the map, the slots, and what stores leave of them. -/
import Derived.Test.YtnknekliaejbaaaClM
import Derived.Test.YtnknekliaejbaaaTurn
namespace Go.Proofs.Ytnknekliaejbaaa.CtS
open Go.RowKit Go.Maps
set_option linter.unusedVariables false
theorem tmap : Try.prog.underlying 35 = some (.map 29 36) := Try.underlying35
theorem zeroP (w : World) : (zeroValue 36).run Try.prog w = .ok (.pointer none) w := by kernel_rfl
def MapAt (w : World) (b : Nat) (m : Int → Option Nat) (c : Nat) : Prop := ∃ D, w.ownsMap Try.prog 29 heldR b (size D) D ∧ Is D m c
section
variable {w w' : World} {b : Nat} {m : Int → Option Nat} {c : Nat} {n : Int}
theorem MapAt.same (h : MapAt w b m c) (k : w'.heap[b]? = w.heap[b]?) : MapAt w' b m c := by
  obtain ⟨D, ⟨es, clock, hb, F, hs, hD⟩, i⟩ := h
  exact ⟨D, ⟨es, clock, k.trans hb, F, hs, hD⟩, i⟩
theorem MapAt.lt (h : MapAt w b m c) : b < w.heap.size := by
  obtain ⟨D, h, i⟩ := h
  exact h.lt
theorem tight {D : DataW Value} {k : Nat} (h : w.ownsMap Try.prog 29 heldR b k D) : w.ownsMap Try.prog 29 heldR b (size D) D := by
  obtain ⟨es, clock, hb, F, _, rfl⟩ := h
  exact ⟨es, clock, hb, F, by simp [Maps.size, length_sorted], rfl⟩
theorem MapAt.look (h : MapAt w b m c) (hn : In n) : (Instr.lookup 35 (.map (some b)) (Kv n) false).run Try.prog w = .ok (.pointer (ptr (m n))) w := by
  obtain ⟨D, h, i⟩ := h
  obtain ⟨v, ps, hrun, hv⟩ := World.ownsMap.lookup h klaw tmap (zeroP w) (zd := .held (.pointer none)) (zp := []) rfl (key_of hn.1 hn.2)
  rw [hrun, ← i.val n hn, valAt]
  simp only [heldR, Option.some.injEq, Prod.mk.injEq] at hv
  rw [← hv.1]
theorem MapAt.len (h : MapAt w b m c) (ty : TypeId) : (Builtin.len_ #[35] ty #[.map (some b)]).run Try.prog w = .ok (.int .i64 c) w := by
  obtain ⟨D, h, i⟩ := h
  rw [World.ownsMap.len h tmap ty, i.size]
theorem MapAt.store (h : MapAt w b m c) (hn : In n) (k : m n = none) (hc : c < maxLen) (s : Nat) :
    ∃ w', (Instr.mapUpdate 35 (.map (some b)) (Kv n) (.pointer (some ⟨s, 0, none⟩))).run Try.prog w = .ok () w' ∧ MapAt w' b (upd m n (some s)) (c + 1) ∧ w.grownBy w' (some b) := by
  obtain ⟨D, h, i⟩ := h
  obtain ⟨w', hrun, ho, hg⟩ := World.ownsMap.store h klaw tmap (by rw [i.size]; exact hc) (key_of hn.1 hn.2) (val := .pointer (some ⟨s, 0, none⟩)) (d := .held (.pointer (ptr (some s)))) (ps := []) rfl
  exact ⟨w', hrun, ⟨_, tight ho, i.put (World.ownsMap.tidy h klaw) hn k s⟩, hg.grown⟩
theorem MapAt.drop (h : MapAt w b m (c + 1)) (hn : In n) (k : (m n).isSome = true) (ty : TypeId) :
    ∃ w', (Builtin.delete_ #[35, 29] ty #[.map (some b), Kv n]).run Try.prog w = .ok (.tuple #[]) w' ∧ MapAt w' b (upd m n none) c ∧ w.grownBy w' (some b) := by
  obtain ⟨D, h, i⟩ := h
  obtain ⟨w', hrun, ho, hg⟩ := World.ownsMap.drop h klaw tmap (key_of hn.1 hn.2) ty
  exact ⟨w', hrun, ⟨_, tight ho, i.del (World.ownsMap.tidy h klaw) hn k⟩, hg.grown⟩
theorem map_made (w : World) : MapAt (w.alloc (.map #[] 0)) w.heap.size (fun _ => none) 0 := ⟨_, World.ownsMap_made w _ _ _, is_nil⟩
end
/-- A slot that holds n's key and value. -/
structure Slot (w : World) (b : Nat) (n : Int) (v : Value) : Prop where
  k0 : w.cell? ⟨b, 0, none⟩ = some (.int .i64 2)
  k1 : w.cell? ⟨b, 1, none⟩ = some (.int .i64 n)
  k2 : w.cell? ⟨b, 2, none⟩ = some (.string ⟨#[]⟩)
  k3 : w.cell? ⟨b, 3, none⟩ = some v
/-- A table in the block g, its map in mb, its slots in blocks of Z: its ends, what stands at each key, how many keys, the border. -/
structure St (w : World) (g mb : Nat) (Z : Nat → Prop) (f l : Option Addr) (m : Int → Option Nat) (val : Int → Value) (c bd : Nat) : Prop where
  gl : g < w.heap.size
  c0 : w.cell? ⟨g, 0, none⟩ = some (.map (some mb))
  c1 : w.cell? ⟨g, 1, none⟩ = some (.pointer f)
  c2 : w.cell? ⟨g, 2, none⟩ = some (.pointer l)
  c3 : w.cell? ⟨g, 3, none⟩ = some (.int .i64 bd)
  free : ∀ i, w.frozen? ⟨g, i, none⟩ = false
  pf : PZ Z f
  pl : PZ Z l
  map : MapAt w mb m c
  gm : g ≠ mb
  lt : ∀ b, Z b → b < w.heap.size
  zfree : ∀ b i, Z b → w.frozen? ⟨b, i, none⟩ = false
  zg : ∀ b, Z b → b ≠ g ∧ b ≠ mb
  z4 : ∀ b, Z b → ∃ p, w.cell? ⟨b, 4, none⟩ = some (.pointer p) ∧ PZ Z p
  z5 : ∀ b, Z b → ∃ p, w.cell? ⟨b, 5, none⟩ = some (.pointer p) ∧ PZ Z p
  ent : ∀ n b, In n → m n = some b → Z b ∧ Slot w b n (val n)
section
variable {w w' : World} {g mb : Nat} {Z : Nat → Prop} {f l : Option Addr} {m : Int → Option Nat} {val : Int → Value} {c bd : Nat}
theorem St.same (h : St w g mb Z f l m val c bd) (hs : w.heap.size ≤ w'.heap.size) (k : ∀ b, (b = g ∨ b = mb ∨ Z b) → w'.heap[b]? = w.heap[b]?) : St w' g mb Z f l m val c bd := by
  have e : ∀ b i, (b = g ∨ b = mb ∨ Z b) → w'.cell? ⟨b, i, none⟩ = w.cell? ⟨b, i, none⟩ := fun b i hb => World.cell?_of_block (k b hb)
  have f : ∀ b i, (b = g ∨ b = mb ∨ Z b) → w'.frozen? ⟨b, i, none⟩ = w.frozen? ⟨b, i, none⟩ := fun b i hb => World.frozen?_of_block (k b hb)
  exact ⟨Nat.lt_of_lt_of_le h.gl hs, (e g 0 (.inl rfl)).trans h.c0, (e g 1 (.inl rfl)).trans h.c1, (e g 2 (.inl rfl)).trans h.c2, (e g 3 (.inl rfl)).trans h.c3, fun i => (f g i (.inl rfl)).trans (h.free i), h.pf, h.pl, h.map.same (k mb (.inr (.inl rfl))), h.gm,
    fun b hb => Nat.lt_of_lt_of_le (h.lt b hb) hs, fun b i hb => (f b i (.inr (.inr hb))).trans (h.zfree b i hb), h.zg,
    fun b hb => by rw [e b 4 (.inr (.inr hb))]; exact h.z4 b hb, fun b hb => by rw [e b 5 (.inr (.inr hb))]; exact h.z5 b hb,
    fun n b hn hb => by
      obtain ⟨z, s⟩ := h.ent n b hn hb
      exact ⟨z, (e b 0 (.inr (.inr z))).trans s.k0, (e b 1 (.inr (.inr z))).trans s.k1, (e b 2 (.inr (.inr z))).trans s.k2, (e b 3 (.inr (.inr z))).trans s.k3⟩⟩
theorem St.below (h : St w g mb Z f l m val c bd) (hb : Below w.heap.size w w') : St w' g mb Z f l m val c bd :=
  h.same hb.size fun b hx => hb.block b (by
    rcases hx with rfl | rfl | hx
    · exact h.gl
    · exact h.map.lt
    · exact h.lt b hx)
theorem St.drew (h : St w g mb Z f l m val c bd) : St w.drew g mb Z f l m val c bd := h.same (Nat.le_refl _) fun _ _ => rfl
theorem St.undrew (h : St w.drew g mb Z f l m val c bd) : St w g mb Z f l m val c bd := h.same (Nat.le_refl _) fun _ _ => rfl
theorem St.alloc (h : St w g mb Z f l m val c bd) (o : Obj) : St (w.alloc o) g mb Z f l m val c bd := h.below ((Below.refl _ w).alloc (Nat.le_refl _) o)
/-- One cell turned: of the table's own, or a slot's links. -/
theorem St.set (h : St w g mb Z f l m val c bd) {a : Addr} {v : Value} {f' l' : Option Addr} {bd' : Nat} (hf : PZ Z f') (hl : PZ Z l')
    (ha : a = ⟨g, 1, none⟩ ∧ v = .pointer f' ∧ l' = l ∧ bd' = bd ∨ a = ⟨g, 2, none⟩ ∧ v = .pointer l' ∧ f' = f ∧ bd' = bd ∨ a = ⟨g, 3, none⟩ ∧ v = .int .i64 bd' ∧ f' = f ∧ l' = l ∨ (∃ b p, Z b ∧ PZ Z p ∧ (a = ⟨b, 4, none⟩ ∨ a = ⟨b, 5, none⟩) ∧ v = .pointer p) ∧ f' = f ∧ l' = l ∧ bd' = bd) : St (w.setCell a v) g mb Z f' l' m val c bd' := by
  have fr : ∀ x, (w.setCell a v).frozen? x = w.frozen? x := fun x => World.frozen?_setCell _ _ _ _
  have ot : ∀ x : Addr, x ≠ a → (w.setCell a v).cell? x = w.cell? x := fun x hx => World.cell?_setCell_other _ _ _ _ hx.symm
  have am : a.block ≠ mb := by
    rcases ha with ⟨rfl, -⟩ | ⟨rfl, -⟩ | ⟨rfl, -⟩ | ⟨⟨b, p, hb, -, e | e, -⟩, -⟩
    · exact h.gm
    · exact h.gm
    · exact h.gm
    · rw [e]; exact (h.zg b hb).2
    · rw [e]; exact (h.zg b hb).2
  have mp : MapAt (w.setCell a v) mb m c := h.map.same (Below.heap_setCell _ _ _ _ (fun e => am e.symm))
  have ne : ∀ {b i d j : Nat}, b ≠ d → (⟨b, i, none⟩ : Addr) ≠ ⟨d, j, none⟩ := fun hb e => by injection e with e; exact hb e
  have no : ∀ {b i d j : Nat}, i ≠ j → (⟨b, i, none⟩ : Addr) ≠ ⟨d, j, none⟩ := fun hb e => by injection e with _ e; exact hb e
  have z4 : ∀ b, Z b → ∃ p, (w.setCell a v).cell? ⟨b, 4, none⟩ = some (.pointer p) ∧ PZ Z p := fun b hb => by
    obtain ⟨p, hp, hz⟩ := h.z4 b hb
    by_cases e : (⟨b, 4, none⟩ : Addr) = a
    · rcases ha with ⟨k, -⟩ | ⟨k, -⟩ | ⟨k, -⟩ | ⟨⟨d, q, -, hq, -, kv⟩, -⟩
      · rw [k] at e; exact absurd e (no (by decide))
      · rw [k] at e; exact absurd e (no (by decide))
      · rw [k] at e; exact absurd e (no (by decide))
      · subst e kv; exact ⟨q, World.cell?_setCell_same _ _ _ hp, hq⟩
    · exact ⟨p, (ot _ e).trans hp, hz⟩
  have z5 : ∀ b, Z b → ∃ p, (w.setCell a v).cell? ⟨b, 5, none⟩ = some (.pointer p) ∧ PZ Z p := fun b hb => by
    obtain ⟨p, hp, hz⟩ := h.z5 b hb
    by_cases e : (⟨b, 5, none⟩ : Addr) = a
    · rcases ha with ⟨k, -⟩ | ⟨k, -⟩ | ⟨k, -⟩ | ⟨⟨d, q, -, hq, -, kv⟩, -⟩
      · rw [k] at e; exact absurd e (no (by decide))
      · rw [k] at e; exact absurd e (no (by decide))
      · rw [k] at e; exact absurd e (no (by decide))
      · subst e kv; exact ⟨q, World.cell?_setCell_same _ _ _ hp, hq⟩
    · exact ⟨p, (ot _ e).trans hp, hz⟩
  have low : ∀ b i, Z b → i < 4 → (⟨b, i, none⟩ : Addr) ≠ a := fun b i hb hi => by
    rcases ha with ⟨rfl, -⟩ | ⟨rfl, -⟩ | ⟨rfl, -⟩ | ⟨⟨d, p, -, -, e | e, -⟩, -⟩
    · exact ne (h.zg b hb).1
    · exact ne (h.zg b hb).1
    · exact ne (h.zg b hb).1
    · rw [e]; exact no (by omega)
    · rw [e]; exact no (by omega)
  have ent : ∀ n b, In n → m n = some b → Z b ∧ Slot (w.setCell a v) b n (val n) := fun n b hn hb => by
    obtain ⟨z, s⟩ := h.ent n b hn hb
    exact ⟨z, (ot _ (low b 0 z (by decide))).trans s.k0, (ot _ (low b 1 z (by decide))).trans s.k1, (ot _ (low b 2 z (by decide))).trans s.k2, (ot _ (low b 3 z (by decide))).trans s.k3⟩
  have gl : g < (w.setCell a v).heap.size := by rw [World.size_setCell]; exact h.gl
  have lt : ∀ b, Z b → b < (w.setCell a v).heap.size := fun b hb => by rw [World.size_setCell]; exact h.lt b hb
  have c0 : (w.setCell a v).cell? ⟨g, 0, none⟩ = some (.map (some mb)) := by
    rw [ot _ ?_, h.c0]
    rcases ha with ⟨rfl, -⟩ | ⟨rfl, -⟩ | ⟨rfl, -⟩ | ⟨⟨d, p, -, -, e | e, -⟩, -⟩
    · exact no (by decide)
    · exact no (by decide)
    · exact no (by decide)
    · rw [e]; exact no (by decide)
    · rw [e]; exact no (by decide)
  have k1 : a ≠ ⟨g, 1, none⟩ → (w.setCell a v).cell? ⟨g, 1, none⟩ = some (.pointer f) := fun k => (ot _ k.symm).trans h.c1
  have k2 : a ≠ ⟨g, 2, none⟩ → (w.setCell a v).cell? ⟨g, 2, none⟩ = some (.pointer l) := fun k => (ot _ k.symm).trans h.c2
  have k3 : a ≠ ⟨g, 3, none⟩ → (w.setCell a v).cell? ⟨g, 3, none⟩ = some (.int .i64 bd) := fun k => (ot _ k.symm).trans h.c3
  refine ⟨gl, c0, ?_, ?_, ?_, fun i => (fr _).trans (h.free i), hf, hl, mp, h.gm, lt, fun b i hb => (fr _).trans (h.zfree b i hb), h.zg, z4, z5, ent⟩
  · rcases ha with ⟨rfl, rfl, -⟩ | ⟨rfl, -, rfl, -⟩ | ⟨rfl, -, rfl, -⟩ | ⟨⟨d, p, hd, -, e, -⟩, rfl, -⟩
    · exact World.cell?_setCell_same _ _ _ h.c1
    · exact k1 (no (by decide))
    · exact k1 (no (by decide))
    · exact k1 (by rcases e with e | e <;> (rw [e]; exact no (by decide)))
  · rcases ha with ⟨rfl, -, rfl, -⟩ | ⟨rfl, rfl, -⟩ | ⟨rfl, -, -, rfl⟩ | ⟨⟨d, p, hd, -, e, -⟩, -, rfl, -⟩
    · exact k2 (no (by decide))
    · exact World.cell?_setCell_same _ _ _ h.c2
    · exact k2 (no (by decide))
    · exact k2 (by rcases e with e | e <;> (rw [e]; exact no (by decide)))
  · rcases ha with ⟨rfl, -, -, rfl⟩ | ⟨rfl, -, -, rfl⟩ | ⟨rfl, rfl, -⟩ | ⟨⟨d, p, hd, -, e, -⟩, -, -, rfl⟩
    · exact k3 (no (by decide))
    · exact k3 (no (by decide))
    · exact World.cell?_setCell_same _ _ _ h.c3
    · exact k3 (by rcases e with e | e <;> (rw [e]; exact no (by decide)))
theorem St.first (h : St w g mb Z f l m val c bd) {p : Option Addr} (hp : PZ Z p) : St (w.setCell ⟨g, 1, none⟩ (.pointer p)) g mb Z p l m val c bd := h.set hp h.pl (.inl ⟨rfl, rfl, rfl, rfl⟩)
theorem St.last (h : St w g mb Z f l m val c bd) {p : Option Addr} (hp : PZ Z p) : St (w.setCell ⟨g, 2, none⟩ (.pointer p)) g mb Z f p m val c bd := h.set h.pf hp (.inr (.inl ⟨rfl, rfl, rfl, rfl⟩))
theorem St.bord (h : St w g mb Z f l m val c bd) (d : Nat) : St (w.setCell ⟨g, 3, none⟩ (.int .i64 d)) g mb Z f l m val c d := h.set h.pf h.pl (.inr (.inr (.inl ⟨rfl, rfl, rfl, rfl⟩)))
theorem St.bef (h : St w g mb Z f l m val c bd) {b : Nat} {p : Option Addr} (hb : Z b) (hp : PZ Z p) : St (w.setCell ⟨b, 4, none⟩ (.pointer p)) g mb Z f l m val c bd := h.set h.pf h.pl (.inr (.inr (.inr ⟨⟨b, p, hb, hp, .inl rfl, rfl⟩, rfl, rfl, rfl⟩)))
theorem St.aft (h : St w g mb Z f l m val c bd) {b : Nat} {p : Option Addr} (hb : Z b) (hp : PZ Z p) : St (w.setCell ⟨b, 5, none⟩ (.pointer p)) g mb Z f l m val c bd := h.set h.pf h.pl (.inr (.inr (.inr ⟨⟨b, p, hb, hp, .inr rfl, rfl⟩, rfl, rfl, rfl⟩)))
/-- The map turned. -/
theorem St.turned {m' : Int → Option Nat} {c' : Nat} (h : St w g mb Z f l m val c bd) (hm : MapAt w' mb m' c') (hg : w.grownBy w' (some mb)) (he : ∀ n b, In n → m' n = some b → Z b ∧ Slot w b n (val n)) : St w' g mb Z f l m' val c' bd := by
  have k : ∀ b, (b = g ∨ Z b) → w'.heap[b]? = w.heap[b]? := fun b hb => by
    rcases hb with rfl | hb
    · exact hg.block b h.gl (fun e => h.gm (by injection e))
    · exact hg.block b (h.lt b hb) (fun e => (h.zg b hb).2 (by injection e))
  have e : ∀ b i, (b = g ∨ Z b) → w'.cell? ⟨b, i, none⟩ = w.cell? ⟨b, i, none⟩ := fun b i hb => World.cell?_of_block (k b hb)
  have f : ∀ b i, (b = g ∨ Z b) → w'.frozen? ⟨b, i, none⟩ = w.frozen? ⟨b, i, none⟩ := fun b i hb => World.frozen?_of_block (k b hb)
  exact ⟨Nat.lt_of_lt_of_le h.gl hg.size, (e g 0 (.inl rfl)).trans h.c0, (e g 1 (.inl rfl)).trans h.c1, (e g 2 (.inl rfl)).trans h.c2, (e g 3 (.inl rfl)).trans h.c3, fun i => (f g i (.inl rfl)).trans (h.free i), h.pf, h.pl, hm, h.gm,
    fun b hb => Nat.lt_of_lt_of_le (h.lt b hb) hg.size, fun b i hb => (f b i (.inr hb)).trans (h.zfree b i hb), h.zg,
    fun b hb => by rw [e b 4 (.inr hb)]; exact h.z4 b hb, fun b hb => by rw [e b 5 (.inr hb)]; exact h.z5 b hb,
    fun n b hn hb => by
      obtain ⟨z, s⟩ := he n b hn hb
      exact ⟨z, (e b 0 (.inr z)).trans s.k0, (e b 1 (.inr z)).trans s.k1, (e b 2 (.inr z)).trans s.k2, (e b 3 (.inr z)).trans s.k3⟩⟩
/-- A new slot. -/
theorem St.fresh (h : St w g mb Z f l m val c bd) {x0 x1 x2 x3 : Value} {p q : Option Addr} {t : TypeId} (hp : PZ Z p) (hq : PZ Z q) : St (w.alloc (.cells #[x0, x1, x2, x3, .pointer p, .pointer q] t)) g mb (fun b => Z b ∨ b = w.heap.size) f l m val c bd := by
  have k := h.alloc (.cells #[x0, x1, x2, x3, .pointer p, .pointer q] t)
  have wd : ∀ {p}, PZ Z p → PZ (fun b => Z b ∨ b = w.heap.size) p := fun hp => hp.wide fun b hb => .inl hb
  refine ⟨k.gl, k.c0, k.c1, k.c2, k.c3, k.free, wd k.pf, wd k.pl, k.map, k.gm, fun b hb => ?_, fun b i hb => ?_, fun b hb => ?_, fun b hb => ?_, fun b hb => ?_, fun n b hn hb => ⟨.inl (k.ent n b hn hb).1, (k.ent n b hn hb).2⟩⟩
  · rcases hb with hb | rfl
    · exact k.lt b hb
    · rw [World.size_alloc]; omega
  · rcases hb with hb | rfl
    · exact k.zfree b i hb
    · exact World.frozen?_alloc_new _ _ _ _
  · rcases hb with hb | rfl
    · exact k.zg b hb
    · exact ⟨fun e => by have := h.gl; omega, fun e => by have := h.map.lt; omega⟩
  · rcases hb with hb | rfl
    · obtain ⟨p, e, z⟩ := k.z4 b hb; exact ⟨p, e, wd z⟩
    · exact ⟨p, by rw [World.cell?_alloc_new]; rfl, wd hp⟩
  · rcases hb with hb | rfl
    · obtain ⟨p, e, z⟩ := k.z5 b hb; exact ⟨p, e, wd z⟩
    · exact ⟨q, by rw [World.cell?_alloc_new]; rfl, wd hq⟩
end
end Go.Proofs.Ytnknekliaejbaaa.CtS
