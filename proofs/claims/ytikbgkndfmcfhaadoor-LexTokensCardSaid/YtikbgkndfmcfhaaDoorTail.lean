/- A region that draws its order and whose last operation waits for all the others is the region without it, and then that operation: so what is held while the others come up need not hold behind it. Plain matter of the model's orders: no program is named. -/
import Derived.Deep.RegionHeld
namespace Go.Proofs.YtikbgkndfmcfhaaDoor
open Go

/-- The last operation waits for all others; of these each waits for earlier ones alone, and no guard looks at the last. -/
def lastWaits (pre : Array Oper) (st : Oper) : Bool :=
  (List.range pre.size).all (fun i => st.after.any (fun e => Region.binds .any e && e.on == i) || (List.range pre.size).any fun j => st.after.any (fun e => Region.binds .any e && e.on == j) && (pre[j]?).any fun o => o.after.any fun e => Region.binds .any e && e.on == i) &&
  st.after.all (fun e => decide (e.on < pre.size)) &&
  (List.range pre.size).all (fun i => (pre[i]?).any fun o => o.after.all (fun e => decide (e.on < i)) && (match o.guard with | some (g, _) => decide (g < pre.size) | none => true))
/-- Whoever is listed has those that it waits for listed. -/
def Closed (pre : Array Oper) (listed : Array Bool) : Prop := ∀ (j : Nat) (o : Oper), pre[j]? = some o → listed.getD j false = true → ∀ e ∈ o.after, Region.binds .any e = true → listed.getD e.on false = true
theorem closed_none (pre : Array Oper) (n : Nat) : Closed pre (Array.replicate n false) := fun j o _ hl => by
  exfalso
  by_cases h : j < n <;> simp [Array.getD, h] at hl
/-- What is asked behind the others: the last operation's step. -/
def Behind (P : Program) (pre : Array Oper) (st : Oper) (Q : Exit → Act → World → Prop) : Exit → Act → World → Prop
  | .normal, a, w => wpOp P (pre.push st) Q pre.size (Q .normal) a w
  | e, a, w => Q e a w
section
variable {P : Program} {pre : Array Oper} {st : Oper} {Q : Exit → Act → World → Prop}
theorem last_all (h : lastWaits pre st = true) : (∀ i, i < pre.size → (∃ e ∈ st.after, Region.binds .any e = true ∧ e.on = i) ∨ ∃ j o, j < pre.size ∧ (∃ e ∈ st.after, Region.binds .any e = true ∧ e.on = j) ∧ pre[j]? = some o ∧ ∃ e ∈ o.after, Region.binds .any e = true ∧ e.on = i) ∧ (∀ e ∈ st.after, e.on < pre.size) ∧
    ∀ (i : Nat) (o : Oper), pre[i]? = some o → (∀ e ∈ o.after, e.on < i) ∧ ∀ (g : Nat) (b : Bool), o.guard = some (g, b) → g < pre.size := by
  simp only [lastWaits, Bool.and_eq_true, List.all_eq_true, List.mem_range] at h
  obtain ⟨⟨h1, h2⟩, h3⟩ := h
  refine ⟨fun i hi => ?_, fun e he => ?_, fun i o ho => ?_⟩
  · have := h1 i hi
    rw [Bool.or_eq_true] at this
    rcases this with this | this
    · rw [Array.any_eq_true'] at this
      obtain ⟨e, he, hb⟩ := this
      simp only [Bool.and_eq_true, beq_iff_eq] at hb
      exact .inl ⟨e, he, hb.1, hb.2⟩
    · rw [List.any_eq_true] at this
      obtain ⟨j, hj, hb⟩ := this
      rw [Bool.and_eq_true] at hb
      obtain ⟨b1, b2⟩ := hb
      rw [Array.any_eq_true'] at b1
      obtain ⟨e, he, hb⟩ := b1
      simp only [Bool.and_eq_true, beq_iff_eq] at hb
      have hj' : j < pre.size := by simpa using hj
      rw [Array.getElem?_eq_getElem hj'] at b2
      simp only [Option.any_some] at b2
      rw [Array.any_eq_true'] at b2
      obtain ⟨e2, he2, hb2⟩ := b2
      simp only [Bool.and_eq_true, beq_iff_eq] at hb2
      exact .inr ⟨j, pre[j], hj', ⟨e, he, hb.1, hb.2⟩, Array.getElem?_eq_getElem hj', e2, he2, hb2.1, hb2.2⟩
  · rw [Array.all_eq_true_iff_forall_mem] at h2
    simpa using h2 e he
  · have hi : i < pre.size := (Array.getElem?_eq_some_iff.1 ho).1
    have := h3 i hi
    rw [ho] at this
    simp only [Option.any_some, Bool.and_eq_true] at this
    obtain ⟨k1, k2⟩ := this
    refine ⟨fun e he => ?_, fun g b hg => ?_⟩
    · rw [Array.all_eq_true_iff_forall_mem] at k1
      simpa using k1 e he
    · rw [hg] at k2
      simpa using k2
theorem push_getD {listed : Array Bool} {i : Nat} (d : Bool) (hi : i < listed.size) : (listed.push false).getD i d = listed.getD i d := by
  simp [Array.getD, hi, Nat.lt_succ_of_lt hi, Array.getElem_push_lt hi]
theorem ready_push (h : lastWaits pre st = true) {listed : Array Bool} (hs : listed.size = pre.size) {i : Nat} (hi : i < pre.size) :
    i ∈ Region.ready .any (pre.push st) (listed.push false) ↔ i ∈ Region.ready .any pre listed := by
  obtain ⟨_, _, h3⟩ := last_all h
  rw [mem_ready, mem_ready, push_getD true (by omega)]
  have ho : (pre.push st)[i]? = pre[i]? := by rw [Array.getElem?_push_lt hi, Array.getElem?_eq_getElem hi]
  rw [ho]
  constructor
  · rintro ⟨hl, o, e, hall⟩
    refine ⟨hl, o, e, fun x hx hb => ?_⟩
    have := hall x hx hb
    rwa [push_getD false (by have := (h3 i o e).1 x hx; omega)] at this
  · rintro ⟨hl, o, e, hall⟩
    refine ⟨hl, o, e, fun x hx hb => ?_⟩
    rw [push_getD false (by have := (h3 i o e).1 x hx; omega)]
    exact hall x hx hb
theorem all_listed (h : lastWaits pre st = true) {listed : Array Bool} (hs : listed.size = pre.size) (hr : Region.ready .any pre listed = []) :
    ∀ i, i < pre.size → listed.getD i false = true := by
  obtain ⟨_, _, h3⟩ := last_all h
  intro i
  induction i using Nat.strongRecOn with
  | _ i ih =>
    intro hi
    have hl : i < listed.size := by omega
    cases hv : listed.getD i false with
    | true => rfl
    | false =>
      exfalso
      have hmem : i ∈ Region.ready .any pre listed := by
        rw [mem_ready]
        refine ⟨?_, pre[i], Array.getElem?_eq_getElem hi, fun e he _ => ?_⟩
        · simpa [Array.getD, hl] using hv
        · have k := (h3 i pre[i] (Array.getElem?_eq_getElem hi)).1 e he
          exact ih e.on k (by omega)
      rw [hr] at hmem
      cases hmem
theorem last_ready (h : lastWaits pre st = true) {listed : Array Bool} (hs : listed.size = pre.size) (hcl : Closed pre listed) :
    pre.size ∈ Region.ready .any (pre.push st) (listed.push false) ↔ ∀ i, i < pre.size → listed.getD i false = true := by
  obtain ⟨h1, h2, _⟩ := last_all h
  rw [mem_ready]
  have ho : (pre.push st)[pre.size]? = some st := by simp
  have hf : (listed.push false).getD pre.size true = false := by rw [← hs]; simp [Array.getD]
  rw [ho]
  constructor
  · rintro ⟨_, o, e, hall⟩ i hi
    obtain rfl : st = o := by simpa using e
    rcases h1 i hi with ⟨x, hx, hb, rfl⟩ | ⟨j, oj, hj, ⟨x, hx, hb, rfl⟩, ho2, y, hy, hyb, rfl⟩
    · have := hall x hx hb
      rwa [push_getD false (by omega)] at this
    · have := hall x hx hb
      rw [push_getD false (by omega)] at this
      exact hcl _ _ ho2 this y hy hyb
  · intro hall
    refine ⟨hf, st, rfl, fun x hx _ => ?_⟩
    have k := h2 x hx
    rw [push_getD false (by omega)]
    exact hall _ k
theorem upon_behind (o : Oper) (a : Act) (K : Act → World → Prop) (r : Result Next) (h : o.upon P a K (Behind P pre st Q) r) : o.upon P a K Q r := by
  cases r with
  | ok n w' =>
    cases n with
    | enter f args => exact Calls.mono h fun e w'' he => by cases e <;> exact he
    | _ => exact h
  | halt x w' =>
    cases x <;> exact h
theorem wpOp_behind (h : lastWaits pre st = true) {i : Nat} (hi : i < pre.size) {K : Act → World → Prop} {a : Act} {w : World} (hw : wpOp P pre (Behind P pre st Q) i K a w) : wpOp P (pre.push st) Q i K a w := by
  obtain ⟨_, _, h3⟩ := last_all h
  have ho : (pre.push st)[i]? = some pre[i] := by rw [Array.getElem?_push_lt hi]
  have hp : pre[i]? = some pre[i] := Array.getElem?_eq_getElem hi
  unfold wpOp at hw ⊢
  rw [hp] at hw
  rw [ho]
  simp only at hw ⊢
  have hwt : Region.wanted pre[i] (yielded (pre.push st) a.tmps) = Region.wanted pre[i] (yielded pre a.tmps) := by
    unfold Region.wanted
    cases hg : pre[i].guard with
    | none => rfl
    | some gb =>
      obtain ⟨g, b⟩ := gb
      have hlt := (h3 i pre[i] hp).2 g b hg
      have e : yielded (pre.push st) a.tmps g = yielded pre a.tmps g := by
        unfold yielded
        rw [Array.getElem?_push_lt hlt, Array.getElem?_eq_getElem hlt]
      simp only [e]
  rw [hwt]
  split
  · rename_i k
    rw [if_pos k] at hw
    rcases hw with x | ⟨x, y⟩
    · exact .inl (upon_behind _ _ _ _ x)
    · exact .inr ⟨x, y⟩
  · rename_i k
    rw [if_neg k] at hw
    exact hw
theorem any_done {ops : Array Oper} {listed : Array Bool} {a : Act} {w : World} (hr : Region.ready .any ops listed = []) (h : Q .normal a w) : ∀ fuel, wpAny P .any ops Q fuel listed a w
  | 0 => ⟨hr, h⟩
  | _ + 1 => ⟨fun _ => h, by rw [hr]; simp⟩
theorem closed_set {listed : Array Bool} (hcl : Closed pre listed) {i : Nat} (hi : i ∈ Region.ready .any pre listed) : Closed pre (listed.setIfInBounds i true) := fun j o ho hl e he hb => by
  have up : listed.getD e.on false = true → (listed.setIfInBounds i true).getD e.on false = true := fun k => by
    by_cases q : i = e.on
    · subst q
      by_cases z : e.on < listed.size
      · simp [Array.getD, z]
      · simp [Array.getD, z] at k
    · rw [getD_set_ne false q]; exact k
  by_cases q : i = j
  · subst q
    rw [mem_ready] at hi
    obtain ⟨_, o', ho', hall⟩ := hi
    rw [ho] at ho'
    injection ho' with ho'
    subst ho'
    exact up (hall e he hb)
  · rw [getD_set_ne false q] at hl
    exact up (hcl j o ho hl e he hb)
theorem tail_any (h : lastWaits pre st = true) : ∀ (fuel : Nat) (listed : Array Bool) (a : Act) (w : World), listed.size = pre.size → Closed pre listed →
    wpAny P .any pre (Behind P pre st Q) fuel listed a w → wpAny P .any (pre.push st) Q (fuel + 1) (listed.push false) a w := by
  have last : ∀ (fuel : Nat) (listed : Array Bool) (a : Act) (w : World), listed.size = pre.size → (∀ i, i < pre.size → listed.getD i false = true) → Behind P pre st Q .normal a w →
      wpOp P (pre.push st) Q pre.size (wpAny P .any (pre.push st) Q fuel ((listed.push false).setIfInBounds pre.size true)) a w := by
    intro fuel listed a w hs hall hb
    refine wpOp_mono (fun a' w' hq => any_done ?_ hq fuel) hb
    cases hr : Region.ready .any (pre.push st) ((listed.push false).setIfInBounds pre.size true) with
    | nil => rfl
    | cons x l =>
      exfalso
      have hx : x ∈ Region.ready .any (pre.push st) ((listed.push false).setIfInBounds pre.size true) := by rw [hr]; simp
      rw [mem_ready] at hx
      obtain ⟨h0, o, ho, _⟩ := hx
      have hxl : x < pre.size + 1 := by
        have := (Array.getElem?_eq_some_iff.1 ho).1
        simpa using this
      by_cases e : x = pre.size
      · subst e
        simp [Array.getD, hs] at h0
      · rw [getD_set_ne true (Ne.symm e), push_getD true (by omega)] at h0
        have := hall x (by omega)
        have hxs : x < listed.size := by omega
        simp [Array.getD, hxs] at h0 this
        rw [this] at h0
        cases h0
  intro fuel
  induction fuel with
  | zero =>
    intro listed a w hs hcl hw
    obtain ⟨hr, hb⟩ := hw
    have hall := all_listed h hs hr
    refine ⟨fun k => ?_, fun i hi => ?_⟩
    · have := (last_ready h hs hcl).2 hall
      rw [k] at this
      cases this
    · by_cases hlt : i < pre.size
      · have := (ready_push h hs hlt).1 hi
        rw [hr] at this
        cases this
      · have : i = pre.size := by
          rw [mem_ready] at hi
          obtain ⟨_, o, ho, _⟩ := hi
          have := (Array.getElem?_eq_some_iff.1 ho).1
          simp at this
          omega
        subst this
        exact last 0 listed a w hs hall hb
  | succ fuel ih =>
    intro listed a w hs hcl hw
    obtain ⟨hb, hn⟩ := hw
    refine ⟨fun k => ?_, fun i hi => ?_⟩
    · have hr : Region.ready .any pre listed = [] := by
        cases hr : Region.ready .any pre listed with
        | nil => rfl
        | cons x l =>
          exfalso
          have hx : x ∈ Region.ready .any pre listed := by rw [hr]; simp
          have hlt : x < pre.size := by
            rw [mem_ready] at hx
            obtain ⟨_, o, ho, _⟩ := hx
            exact (Array.getElem?_eq_some_iff.1 ho).1
          have := (ready_push h hs hlt).2 hx
          rw [k] at this
          cases this
      have := (last_ready h hs hcl).2 (all_listed h hs hr)
      rw [k] at this
      cases this
    · by_cases hlt : i < pre.size
      · have hi' := (ready_push h hs hlt).1 hi
        have e : (listed.push false).setIfInBounds i true = (listed.setIfInBounds i true).push false := by
          apply Array.ext_getElem?
          intro j
          rw [Array.getElem?_setIfInBounds, Array.getElem?_push, Array.getElem?_push, Array.getElem?_setIfInBounds, Array.size_push, Array.size_setIfInBounds]
          have h1 : i < listed.size + 1 := by omega
          have h2 : i < listed.size := by omega
          by_cases hij : i = j
          · subst hij
            have h3 : i ≠ listed.size := by omega
            rw [if_pos rfl, if_pos h1, if_neg h3, if_pos rfl, if_pos h2]
          · rw [if_neg hij, if_neg hij]
        rw [e]
        exact wpOp_mono (fun a' w' hq => ih (listed.setIfInBounds i true) a' w' (by simpa using hs) (closed_set hcl hi') hq) (wpOp_behind h hlt (hn i hi'))
      · have : i = pre.size := by
          rw [mem_ready] at hi
          obtain ⟨_, o, ho, _⟩ := hi
          have := (Array.getElem?_eq_some_iff.1 ho).1
          simp at this
          omega
        subst this
        have hall := (last_ready h hs hcl).1 hi
        have hr : Region.ready .any pre listed = [] := by
          cases hr : Region.ready .any pre listed with
          | nil => rfl
          | cons x l =>
            exfalso
            have hx : x ∈ Region.ready .any pre listed := by rw [hr]; simp
            rw [mem_ready] at hx
            obtain ⟨h0, o, ho, _⟩ := hx
            have hlt := (Array.getElem?_eq_some_iff.1 ho).1
            have := hall x hlt
            have hxs : x < listed.size := by omega
            simp [Array.getD, hxs] at h0 this
            rw [this] at h0
            cases h0
        exact last (fuel + 1) listed a w hs hall (hb hr)
/-- THE REGION: the others under S, then the last one's step. -/
theorem wp_region_tail {S : World → Prop} {id : Nat} {ops : Array Oper} {a : Act} {w : World} (hops : ops = pre.push st) (h : lastWaits pre st = true) (hm : P.follows .mixedOrders = true) (hS : S w.drew)
    (hw : S w.drew → wpAnyH P .any pre (Behind P pre st Q) S pre.size (Array.replicate pre.size false) a w.drew) : (Code.region id ops true).wp P Q a w := by
  subst hops
  refine wp_region_any hm ?_
  have k := tail_any (P := P) (Q := Q) h pre.size (Array.replicate pre.size false) a w.drew (by simp) (closed_none _ _) (wpAny_of_held _ _ _ _ (hw hS))
  rw [Array.size_push, Array.replicate_succ]
  exact k
theorem behind_normal {a : Act} {w : World} (h : wpOp P (pre.push st) Q pre.size (Q .normal) a w) : Behind P pre st Q .normal a w := h
theorem wp_region_tail_list {S : World → Prop} {id : Nat} {l : List Oper} {a : Act} {w : World} (hne : l ≠ []) (h : lastWaits l.dropLast.toArray (l.getLast hne) = true) (hm : P.follows .mixedOrders = true) (hS : S w.drew)
    (hw : S w.drew → wpAnyH P .any l.dropLast.toArray (Behind P l.dropLast.toArray (l.getLast hne) Q) S l.dropLast.length (Array.replicate l.dropLast.length false) a w.drew) : (Code.region id l.toArray true).wp P Q a w :=
  wp_region_tail (pre := l.dropLast.toArray) (st := l.getLast hne) (by rw [List.push_toArray, List.dropLast_concat_getLast]) h hm hS (by simpa using hw)
end
end Go.Proofs.YtikbgkndfmcfhaaDoor
