/- Both tables side by side: package table's at p, the document's in block g. -/
import Derived.Test.YtedpanfdkdbblaaTrNames
import Derived.Test.YtedpanfdkdbblaaTabOk
namespace Go.Proofs.Ytedpanfdkdbblaa
open Go.RowKit
set_option linter.unusedVariables false
set_option maxHeartbeats 2000000 in
theorem texts_any (w : World) (v v' : Value) (l : List (List UInt8)) (h : TTexts w v l) (h' : TTexts w v' l) (hl : l.length ≤ 1000) :
    Calls Try.prog 13 #[v, v'] w fun e w' => e = .returned (.bool true) ∧ Below w.heap.size w w' := by
  obtain ⟨A, c, rfl, hA, hc, hr⟩ := h
  obtain ⟨A', c', rfl, hA', hc', hr'⟩ := h'
  have H1 := Lib.hid hr
  have H2 := Lib.hid hr'
  obtain ⟨n, hn⟩ : ∃ n, l.length = n := ⟨_, rfl⟩
  have HN := Lib.hid hn
  rw [hn] at hl hc hc' ⊢
  have n9 : (n : Int) ≤ 1000 := by omega
  have n0 : (0 : Int) ≤ (n : Int) := by omega
  have nc : (n : Int) ≤ (c : Int) := by omega
  have nc' : (n : Int) ≤ (c' : Int) := by omega
  clear hr hr' hn hA hA' hc hc' hl
  go_enter Try.func13, Try.ntmps13
  go_wp2_with fail
  go_loopw [5] (fun i wr => ∃ k : Nat, k ≤ n ∧ i = .int .i64 k ∧ Below w.heap.size w wr) (fun i _ => n - (intOf i).toNat)
  case atStart => exact ⟨0, Nat.zero_le _, rfl, Below.refl _ _⟩
  case round =>
    obtain ⟨k, hk, rfl, hb⟩ := hrel
    have HB := Lib.hid hb
    clear hb
    have k0 : (0 : Int) ≤ (k : Int) := by omega
    by_cases hlt : k < n
    · have k1 : (k : Int) < (n : Int) := by omega
      obtain ⟨p, rfl, hp, e1⟩ := H1.out k (by rw [HN.out]; exact hlt)
      obtain ⟨p', rfl, hp', e2⟩ := H2.out k (by rw [HN.out]; exact hlt)
      obtain ⟨s, hs⟩ : ∃ s : ByteArray, (⟨(l[k]'(by rw [HN.out]; exact hlt)).toArray⟩ : ByteArray) = s := ⟨_, rfl⟩
      rw [hs] at e1 e2
      replace e1 : wr.cell? (p.add k) = some (.string s) := by rw [HB.out.cell (p := p.add k) (by rw [add_block]; exact hp)]; exact e1
      replace e2 : wr.cell? (p'.add k) = some (.string s) := by rw [HB.out.cell (p := p'.add k) (by rw [add_block]; exact hp')]; exact e2
      have ne : (s.toList != s.toList) = false := by simp
      clear hp hp' hs
      go_wp2_with fail
      go_region
      go_wp2_with fail
      go_roundw
      case rel => exact ⟨k + 1, hlt, by go_num, HB.out.drew⟩
      case measure => simp [intOf]; omega
    · have k1 : (n : Int) ≤ (k : Int) := by omega
      go_wp2_with fail
      go_ret
      exact ⟨rfl, HB.out⟩
theorem NdAt.same {w w' : World} {x : Nd} {v : Value} (h : NdAt w x v) (k : w'.heap[x.b]? = w.heap[x.b]?) (hs : w.heap.size ≤ w'.heap.size) : NdAt w' x v :=
  ⟨(World.cell?_of_block k).trans h.name, (World.cell?_of_block k).trans h.num, (World.cell?_of_block k).trans h.next, fun i => (World.frozen?_of_block k).trans (h.free i), Nat.lt_of_lt_of_le h.lt hs⟩
theorem Seg.same {w w' : World} : ∀ {ns : List Nd}, Seg w ns → (∀ x ∈ ns, w'.heap[x.b]? = w.heap[x.b]?) → w.heap.size ≤ w'.heap.size → Seg w' ns
  | [], _, _, _ => trivial
  | x :: r, h, k, hs => ⟨h.1.same (k x List.mem_cons_self) hs, Seg.same h.2 (fun y hy => k y (List.mem_cons_of_mem _ hy)) hs⟩
theorem Arr.same {w w' : World} {B : Nat} {cs : List (List Nd)} (h : Arr w B cs) (kB : w'.heap[B]? = w.heap[B]?) (k : ∀ x ∈ cs.flatten, w'.heap[x.b]? = w.heap[x.b]?) (hs : w.heap.size ≤ w'.heap.size) : Arr w' B cs :=
  ⟨Nat.lt_of_lt_of_le h.lt hs, fun i => (World.frozen?_of_block kB).trans (h.free i), fun i hi => by
    have c := h.chain i hi
    exact ⟨(World.cell?_of_block kB).trans c.at_, c.seg.same (fun x hx => k x (List.mem_flatten.2 ⟨_, List.getElem_mem hi, hx⟩)) hs, (World.frozen?_of_block kB).trans c.free, Nat.lt_of_lt_of_le c.lt hs⟩⟩
theorem Lies.same {w w' : World} {q : Nat} {T : Tb} (h : Lies w q T) (k : ∀ b ∈ blocks q T, w'.heap[b]? = w.heap[b]?) (hs : w.heap.size ≤ w'.heap.size) : Lies w' q T := by
  have kq := k q List.mem_cons_self
  have kn : ∀ x ∈ nodes T, w'.heap[x.b]? = w.heap[x.b]? := fun x hx => k x.b (List.mem_cons_of_mem _ (List.mem_cons_of_mem _ (List.mem_append_right _ (List.mem_map.2 ⟨x, hx, rfl⟩))))
  obtain ⟨hh, a1, a2⟩ := h
  refine ⟨⟨(World.cell?_of_block kq).trans hh.first, (World.cell?_of_block kq).trans hh.second, (World.cell?_of_block kq).trans hh.passed, (World.cell?_of_block kq).trans hh.count, (World.cell?_of_block kq).trans hh.work, fun i => (World.frozen?_of_block kq).trans (hh.free i), Nat.lt_of_lt_of_le hh.lt hs⟩, a1.same (k _ (List.mem_cons_of_mem _ List.mem_cons_self)) (fun x hx => kn x (mem1 hx)) hs, fun B cs e => (a2 B cs e).same (k _ (List.mem_cons_of_mem _ (List.mem_cons_of_mem _ (List.mem_append_left _ (by rw [e]; simp [B2s]))))) (fun x hx => kn x (mem2 e hx)) hs⟩
theorem TabRel.same {w w' : World} {F : Nat → Prop} {p : Addr} {M : TabM.T} {m : Nat} (h : TabRel w F p M m) (k : ∀ b, F b → b < w.heap.size → w'.heap[b]? = w.heap[b]?) (hs : w.heap.size ≤ w'.heap.size) : TabRel w' F p M m := by
  obtain ⟨q, T, rfl, ht, hm, hF⟩ := h
  exact ⟨q, T, rfl, ⟨ht.lies.same (fun b hb => k b (hF b hb) (blocks_lt ht.lies b hb)) hs, ht.ok, ht.num, ht.perm, ht.work⟩, hm, hF⟩
theorem TabRel.tight {w : World} {F : Nat → Prop} {p : Addr} {M : TabM.T} {m : Nat} (h : TabRel w F p M m) : TabRel w (fun k => F k ∧ k < w.heap.size) p M m := by
  obtain ⟨q, T, rfl, ht, hm, hF⟩ := h
  exact ⟨q, T, rfl, ht, hm, fun k hk => ⟨hF k hk, blocks_lt ht.lies k hk⟩⟩
theorem TabRel.nodup {w : World} {F : Nat → Prop} {p : Addr} {M : TabM.T} {m : Nat} (h : TabRel w F p M m) : (M.l.map Prod.fst).Nodup := by
  obtain ⟨q, T, rfl, ht, hm, hF⟩ := h
  exact ht.names_
/-- Both tables, of a law that began in the world w0. -/
def TDuo (w0 w : World) (p : Addr) (g : Nat) (M N : TabM.T) : Prop :=
  (∃ F G m, TabRel w F p M m ∧ RT w w0.heap.size G g N ∧ (∀ k, F k → k < w.heap.size ∧ w0.heap.size ≤ k ∧ ¬ G k) ∧ ∀ k, G k → k < w.heap.size ∧ w0.heap.size ≤ k) ∧ Below w0.heap.size w0 w
section
variable {w0 w : World} {p : Addr} {g : Nat} {M M' N N' : TabM.T}
theorem TDuo.t_step (D : TDuo w0 w p g M N) {f : FuncId} {args : Array Value} {ret : Value} {good : Nat → Prop} (d : ∀ F m, TabRel w F p M m → TDoes TabRel f args ret w F p M' good) :
    Calls Try.prog f args w fun e w' => e = .returned ret ∧ TDuo w0 w' p g M' N := by
  obtain ⟨⟨F, G, m, ht, hr, hF, hG⟩, hb⟩ := D
  refine (d F m ht).mono ?_
  rintro e w' ⟨he, ⟨F', m', ht', -, hF'⟩, ho⟩
  have nF : ∀ k, G k → ¬ F k := fun k hk hf => (hF k hf).2.2 hk
  refine ⟨he, ⟨⟨_, G, m', ht'.tight, hr.below (ho.block g hr.lt (nF g hr.own)) (fun k hk hl => ho.block k hl (nF k hk)) ho.size, fun k hk => ?_, fun k hk => ⟨Nat.lt_of_lt_of_le (hG k hk).1 ho.size, (hG k hk).2⟩⟩, hb.trans (ho.below (fun k hk => (hF k hk).2.1) hb.size)⟩⟩
  refine ⟨hk.2, ?_, fun gk => ?_⟩
  · rcases hF' k hk.1 with x | x
    · exact (hF k x).2.1
    · exact Nat.le_trans hb.size x
  · rcases hF' k hk.1 with x | x
    · exact (hF k x).2.2 gk
    · have := (hG k gk).1; omega
theorem TDuo.x_step (D : TDuo w0 w p g M N) {f : FuncId} {args : Array Value} {ret : Value} (d : ∀ G, RT w w0.heap.size G g N → RDoes f args ret w w0.heap.size G g N') :
    Calls Try.prog f args w fun e w' => e = .returned ret ∧ TDuo w0 w' p g M N' := by
  obtain ⟨⟨F, G, m, ht, hr, hF, hG⟩, hb⟩ := D
  refine (d G hr).mono ?_
  rintro e w' ⟨he, G', hr', hG', ho⟩
  refine ⟨he, ⟨⟨F, fun k => G' k, m, ht.same (fun b fb hl => ho.block b hl (hF b fb).2.2) ho.size, hr', fun k hk => ⟨Nat.lt_of_lt_of_le (hF k hk).1 ho.size, (hF k hk).2.1, fun gk => ?_⟩, fun k hk => ?_⟩, hb.trans (ho.below (fun k hk => (hG k hk).2) hb.size)⟩⟩
  · rcases hG' k gk with x | x
    · exact (hF k hk).2.2 x
    · have := (hF k hk).1; omega
  · rcases hG' k hk with x | x
    · exact ⟨Nat.lt_of_lt_of_le (hG k x).1 ho.size, (hG k x).2⟩
    · exact ⟨x.2, Nat.le_trans hb.size x.1⟩
theorem TDuo.keep (D : TDuo w0 w p g M N) {w' : World} (h : Below w.heap.size w w') : TDuo w0 w' p g M N := by
  obtain ⟨⟨F, G, m, ht, hr, hF, hG⟩, hb⟩ := D
  exact ⟨⟨F, G, m, tab_ok.keep ht h, hr.below (h.block g hr.lt) (fun k _ hl => h.block k hl) h.size, fun k hk => ⟨Nat.lt_of_lt_of_le (hF k hk).1 h.size, (hF k hk).2⟩, fun k hk => ⟨Nat.lt_of_lt_of_le (hG k hk).1 h.size, (hG k hk).2⟩⟩, hb.trans (h.mono hb.size)⟩
end
end Go.Proofs.Ytedpanfdkdbblaa
