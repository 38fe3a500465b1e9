/- The law's act, on both tables: their answers are the same. -/
import Derived.Test.YtedpanfdkdbblaaTrDuo
namespace Go.Proofs.Ytedpanfdkdbblaa
open Go.RowKit
set_option linter.unusedVariables false
theorem kind_five (k : Int) : ∃ m : Nat, m < 5 ∧ (wrap64 (k.tmod 5 + 5)).tmod 5 = (m : Int) := by
  have h1 : k.tmod 5 < 5 := Int.tmod_lt_of_pos k (by omega)
  have h2 : -5 < k.tmod 5 := Int.lt_tmod_of_pos k (by omega)
  generalize k.tmod 5 = t at *
  have h3 : wrap64 (t + 5) = t + 5 := by unfold wrap64; omega
  rw [h3, Int.tmod_eq_emod_of_nonneg (by omega)]
  exact ⟨((t + 5) % 5).toNat, by omega, by omega⟩
section
variable {w0 w : World} {p : Addr} {g : Nat} {M : TabM.T}
/-- A call of package table behind new blocks, which it leaves. -/
theorem TDuo.t_step' {W : World} {M' N : TabM.T} (D : TDuo w0 w p g M N) (hW : Below w.heap.size w W) {f : FuncId} {args : Array Value} {ret : Value} (d : ∀ F m, TabRel W F p M m → TDoes TabRel f args ret W F p M' (fun _ => True)) :
    Calls Try.prog f args W fun e w' => e = .returned ret ∧ TDuo w0 w' p g M' N ∧ ∀ b, w.heap.size ≤ b → b < W.heap.size → w'.heap[b]? = W.heap[b]? := by
  obtain ⟨⟨F, G, m, ht, hr, hF, hG⟩, hb⟩ := D
  have ht := tab_ok.keep ht hW
  have hr : RT W w0.heap.size G g N := hr.below (hW.block g hr.lt) (fun k _ hl => hW.block k hl) hW.size
  refine (d F m ht).mono ?_
  rintro e w' ⟨he, ⟨F', m', ht', -, hF'⟩, ho⟩
  have nF : ∀ k, G k → ¬ F k := fun k hk hf => (hF k hf).2.2 hk
  refine ⟨he, ⟨⟨_, G, m', ht'.tight, hr.below (ho.block g hr.lt (nF g hr.own)) (fun k hk hl => ho.block k hl (nF k hk)) ho.size, fun k hk => ?_, fun k hk => ⟨Nat.lt_of_lt_of_le (hG k hk).1 (Nat.le_trans hW.size ho.size), (hG k hk).2⟩⟩, (hb.trans (hW.mono hb.size)).trans (ho.below (fun k hk => (hF k hk).2.1) (Nat.le_trans hb.size hW.size))⟩, fun b h1 h2 => ho.block b h2 fun fb => by have := (hF b fb).1; omega⟩
  refine ⟨hk.2, ?_, fun gk => ?_⟩
  · rcases hF' k hk.1 with x | x
    · exact (hF k x).2.1
    · exact Nat.le_trans hb.size (Nat.le_trans hW.size x)
  · rcases hF' k hk.1 with x | x
    · exact (hF k x).2.2 gk
    · have := (hG k gk).1; have := hW.size; omega
theorem put_both {W : World} (D : TDuo w0 w p g M M) (hW : Below w.heap.size w W) (s : ByteArray) (n : Int) (hs : s.size ≤ 64) (hl : M.l.length ≤ 999) :
    Calls Try.prog 17 #[.pointer (some p), .string s, .int .i64 n] W fun e w' => e = .returned (pair (TabM.was M.l s.data.toList) (TabM.is M.l s.data.toList)) ∧ TDuo w0 w' p g (TabM.put M s.data.toList n) M ∧ ∀ b, w.heap.size ≤ b → b < W.heap.size → w'.heap[b]? = W.heap[b]? := 
  D.t_step' hW fun F m h => tab_ok.put h s n hs (by omega)
theorem xput_both {M' : TabM.T} (hnd : (M.l.map Prod.fst).Nodup) (D : TDuo w0 w p g M' M) (s : ByteArray) (n : Int) (hl : M.l.length ≤ 999) :
    Calls Try.prog 23 #[.pointer (some ⟨g, 0, none⟩), .string s, .int .i64 n] w fun e w' => e = .returned (pair (TabM.was M.l s.data.toList) (TabM.is M.l s.data.toList)) ∧ TDuo w0 w' p g M' (TabM.put M s.data.toList n) :=
  D.x_step fun G r => rput_any w w0.heap.size G g M r D.2.size hnd s n hl
theorem get_both {W : World} (D : TDuo w0 w p g M M) (hW : Below w.heap.size w W) (s : ByteArray) (hs : s.size ≤ 64) :
    Calls Try.prog 19 #[.pointer (some p), .string s] W fun e w' => e = .returned (pair (TabM.was M.l s.data.toList) (TabM.is M.l s.data.toList)) ∧ TDuo w0 w' p g M M ∧ ∀ b, w.heap.size ≤ b → b < W.heap.size → w'.heap[b]? = W.heap[b]? := 
  D.t_step' hW fun F m h => (tab_ok.get h s hs).mono fun e w' ⟨he, ⟨F', m', a, _, c⟩, o⟩ => ⟨he, ⟨F', m', a, trivial, c⟩, o⟩
theorem xget_both (D : TDuo w0 w p g M M) (s : ByteArray) :
    Calls Try.prog 24 #[.pointer (some ⟨g, 0, none⟩), .string s] w fun e w' => e = .returned (pair (TabM.was M.l s.data.toList) (TabM.is M.l s.data.toList)) ∧ TDuo w0 w' p g M M := by
  obtain ⟨⟨F, G, m, ht, hr, hF, hG⟩, hb⟩ := D
  refine (rget_any w w0.heap.size G g M hr s).mono ?_
  rintro e w' ⟨he, rfl⟩
  exact ⟨he, ⟨F, G, m, ht, hr, hF, hG⟩, hb⟩
theorem del_both {W : World} (D : TDuo w0 w p g M M) (hW : Below w.heap.size w W) (s : ByteArray) (hs : s.size ≤ 64) :
    Calls Try.prog 20 #[.pointer (some p), .string s] W fun e w' => e = .returned (pair (TabM.was M.l s.data.toList) (TabM.is M.l s.data.toList)) ∧ TDuo w0 w' p g (TabM.del M s.data.toList) M ∧ ∀ b, w.heap.size ≤ b → b < W.heap.size → w'.heap[b]? = W.heap[b]? := 
  D.t_step' hW fun F m h => tab_ok.del h s hs
theorem xdel_both {M' : TabM.T} (hnd : (M.l.map Prod.fst).Nodup) (D : TDuo w0 w p g M' M) (s : ByteArray) :
    Calls Try.prog 25 #[.pointer (some ⟨g, 0, none⟩), .string s] w fun e w' => e = .returned (pair (TabM.was M.l s.data.toList) (TabM.is M.l s.data.toList)) ∧ TDuo w0 w' p g M' (TabM.del M s.data.toList) :=
  D.x_step fun G r => rdel_any w w0.heap.size G g M r D.2.size hnd s
theorem TDuo.nodup {N : TabM.T} (D : TDuo w0 w p g M N) : (M.l.map Prod.fst).Nodup := by
  obtain ⟨⟨F, G, m, ht, -⟩, -⟩ := D
  exact ht.nodup
end
theorem put_more (M : TabM.T) (s : List UInt8) (n : Int) : (TabM.put M s n).l.length ≤ M.l.length + 1 := by
  unfold TabM.put
  split
  · simp
  · simp
theorem del_more (M : TabM.T) (s : List UInt8) : (TabM.del M s).l.length ≤ M.l.length + 1 := by
  unfold TabM.del
  exact Nat.le_succ_of_le (List.length_filter_le _ _)

set_option maxRecDepth 20000 in
set_option maxHeartbeats 4000000 in
theorem act_0 (w0 w : World) (p : Addr) (g : Nat) (M : TabM.T) (D : TDuo w0 w p g M M) (k n : Int) (s : ByteArray) (hk : (wrap64 (k.tmod 5 + 5)).tmod 5 = 0) (hs : s.size ≤ 20) (hl : M.l.length ≤ 999) :
    Calls Try.prog 9 #[.pointer (some p), .pointer (some ⟨g, 0, none⟩), .agg #[.int .i64 k, .int .i64 n, .string s]] w fun e w' => ∃ M', e = .returned (.bool true) ∧ TDuo w0 w' p g M' M' ∧ M'.l.length ≤ M.l.length + 1 := by
  have DD := Lib.hid D
  have AL : Hid (Below w.heap.size w (w.alloc (.cells #[.int .i64 k, .int .i64 n, .string s] 30))) := (Below.refl _ w).alloc (Nat.le_refl _) _
  have HN := Lib.hid D.nodup
  have HS : Hid (s.size ≤ 64 ∧ M.l.length ≤ 999) := ⟨by omega, hl⟩
  have hbx := D.2.size
  obtain ⟨x, hx⟩ : ∃ x, TabM.was M.l s.data.toList = x := ⟨_, rfl⟩
  obtain ⟨b, hb⟩ : ∃ b, TabM.is M.l s.data.toList = b := ⟨_, rfl⟩
  have HX := Lib.hid (And.intro hx hb)
  have K0 : Hid (∀ (v : Value) (n : Int), pair n b = .tuple #[.int .i64 n, .bool b]) := fun _ _ => rfl
  have bb : (b == b) = true := by simp
  clear D hs hl hx hb hbx
  go_enter Try.func9, Try.ntmps9
  go_wp2_with fail
  go_at_call 17
  refine (put_both DD.out AL.out s n HS.out.1 HS.out.2).mono ?_
  rintro e w2 ⟨rfl, h2, hkb⟩
  have H2 := Lib.hid h2
  clear h2
  rw [HX.out.1, HX.out.2, show pair x b = .tuple #[.int .i64 x, .bool b] from rfl]
  have cb : ∀ i, i < 3 → w2.cell? ⟨w.heap.size, i, none⟩ = (#[.int .i64 k, .int .i64 n, .string s] : Array Value)[i]? := fun i _ => by
    have e := hkb w.heap.size (Nat.le_refl _) (by simp)
    rw [World.cell?_of_block e, World.cell?_alloc_new]
  have cb0 : w2.cell? ⟨w.heap.size, 2, none⟩ = some (.string s) := cb 2 (by decide)
  have cb1 : w2.cell? ⟨w.heap.size, 1, none⟩ = some (.int .i64 n) := cb 1 (by decide)
  clear cb hkb
  go_wp2_with fail
  go_at_call 23
  refine (xput_both HN.out H2.out s n HS.out.2).mono ?_
  rintro e w3 ⟨rfl, h3⟩
  have H3 := Lib.hid h3
  clear h3
  rw [HX.out.1, HX.out.2, show pair x b = .tuple #[.int .i64 x, .bool b] from rfl]
  go_wp2_with fail
  go_ret
  exact ⟨TabM.put M s.data.toList n, by first | rfl | simp, H3.out, put_more _ _ _⟩

set_option maxRecDepth 20000 in
set_option maxHeartbeats 4000000 in
theorem act_1 (w0 w : World) (p : Addr) (g : Nat) (M : TabM.T) (D : TDuo w0 w p g M M) (k n : Int) (s : ByteArray) (hk : (wrap64 (k.tmod 5 + 5)).tmod 5 = 1) (hs : s.size ≤ 20) (hl : M.l.length ≤ 999) :
    Calls Try.prog 9 #[.pointer (some p), .pointer (some ⟨g, 0, none⟩), .agg #[.int .i64 k, .int .i64 n, .string s]] w fun e w' => ∃ M', e = .returned (.bool true) ∧ TDuo w0 w' p g M' M' ∧ M'.l.length ≤ M.l.length + 1 := by
  have DD := Lib.hid D
  have AL : Hid (Below w.heap.size w (w.alloc (.cells #[.int .i64 k, .int .i64 n, .string s] 30))) := (Below.refl _ w).alloc (Nat.le_refl _) _
  have HN := Lib.hid D.nodup
  have HS : Hid (s.size ≤ 64 ∧ M.l.length ≤ 999) := ⟨by omega, hl⟩
  have hbx := D.2.size
  obtain ⟨x, hx⟩ : ∃ x, TabM.was M.l s.data.toList = x := ⟨_, rfl⟩
  obtain ⟨b, hb⟩ : ∃ b, TabM.is M.l s.data.toList = b := ⟨_, rfl⟩
  have HX := Lib.hid (And.intro hx hb)
  have K0 : Hid (∀ (v : Value) (n : Int), pair n b = .tuple #[.int .i64 n, .bool b]) := fun _ _ => rfl
  have bb : (b == b) = true := by simp
  clear D hs hl hx hb hbx
  go_enter Try.func9, Try.ntmps9
  go_wp2_with fail
  go_at_call 17
  refine (put_both DD.out AL.out s n HS.out.1 HS.out.2).mono ?_
  rintro e w2 ⟨rfl, h2, hkb⟩
  have H2 := Lib.hid h2
  clear h2
  rw [HX.out.1, HX.out.2, show pair x b = .tuple #[.int .i64 x, .bool b] from rfl]
  have cb : ∀ i, i < 3 → w2.cell? ⟨w.heap.size, i, none⟩ = (#[.int .i64 k, .int .i64 n, .string s] : Array Value)[i]? := fun i _ => by
    have e := hkb w.heap.size (Nat.le_refl _) (by simp)
    rw [World.cell?_of_block e, World.cell?_alloc_new]
  have cb0 : w2.cell? ⟨w.heap.size, 2, none⟩ = some (.string s) := cb 2 (by decide)
  have cb1 : w2.cell? ⟨w.heap.size, 1, none⟩ = some (.int .i64 n) := cb 1 (by decide)
  clear cb hkb
  go_wp2_with fail
  go_at_call 23
  refine (xput_both HN.out H2.out s n HS.out.2).mono ?_
  rintro e w3 ⟨rfl, h3⟩
  have H3 := Lib.hid h3
  clear h3
  rw [HX.out.1, HX.out.2, show pair x b = .tuple #[.int .i64 x, .bool b] from rfl]
  go_wp2_with fail
  go_ret
  exact ⟨TabM.put M s.data.toList n, by first | rfl | simp, H3.out, put_more _ _ _⟩

set_option maxRecDepth 20000 in
set_option maxHeartbeats 4000000 in
theorem act_2 (w0 w : World) (p : Addr) (g : Nat) (M : TabM.T) (D : TDuo w0 w p g M M) (k n : Int) (s : ByteArray) (hk : (wrap64 (k.tmod 5 + 5)).tmod 5 = 2) (hs : s.size ≤ 20) (hl : M.l.length ≤ 999) :
    Calls Try.prog 9 #[.pointer (some p), .pointer (some ⟨g, 0, none⟩), .agg #[.int .i64 k, .int .i64 n, .string s]] w fun e w' => ∃ M', e = .returned (.bool true) ∧ TDuo w0 w' p g M' M' ∧ M'.l.length ≤ M.l.length + 1 := by
  have DD := Lib.hid D
  have AL : Hid (Below w.heap.size w (w.alloc (.cells #[.int .i64 k, .int .i64 n, .string s] 30))) := (Below.refl _ w).alloc (Nat.le_refl _) _
  have HN := Lib.hid D.nodup
  have HS : Hid (s.size ≤ 64 ∧ M.l.length ≤ 999) := ⟨by omega, hl⟩
  have hbx := D.2.size
  obtain ⟨x, hx⟩ : ∃ x, TabM.was M.l s.data.toList = x := ⟨_, rfl⟩
  obtain ⟨b, hb⟩ : ∃ b, TabM.is M.l s.data.toList = b := ⟨_, rfl⟩
  have HX := Lib.hid (And.intro hx hb)
  have K0 : Hid (∀ (v : Value) (n : Int), pair n b = .tuple #[.int .i64 n, .bool b]) := fun _ _ => rfl
  have bb : (b == b) = true := by simp
  clear D hs hl hx hb hbx
  go_enter Try.func9, Try.ntmps9
  go_wp2_with fail
  go_at_call 17
  refine (put_both DD.out AL.out s n HS.out.1 HS.out.2).mono ?_
  rintro e w2 ⟨rfl, h2, hkb⟩
  have H2 := Lib.hid h2
  clear h2
  rw [HX.out.1, HX.out.2, show pair x b = .tuple #[.int .i64 x, .bool b] from rfl]
  have cb : ∀ i, i < 3 → w2.cell? ⟨w.heap.size, i, none⟩ = (#[.int .i64 k, .int .i64 n, .string s] : Array Value)[i]? := fun i _ => by
    have e := hkb w.heap.size (Nat.le_refl _) (by simp)
    rw [World.cell?_of_block e, World.cell?_alloc_new]
  have cb0 : w2.cell? ⟨w.heap.size, 2, none⟩ = some (.string s) := cb 2 (by decide)
  have cb1 : w2.cell? ⟨w.heap.size, 1, none⟩ = some (.int .i64 n) := cb 1 (by decide)
  clear cb hkb
  go_wp2_with fail
  go_at_call 23
  refine (xput_both HN.out H2.out s n HS.out.2).mono ?_
  rintro e w3 ⟨rfl, h3⟩
  have H3 := Lib.hid h3
  clear h3
  rw [HX.out.1, HX.out.2, show pair x b = .tuple #[.int .i64 x, .bool b] from rfl]
  go_wp2_with fail
  go_ret
  exact ⟨TabM.put M s.data.toList n, by first | rfl | simp, H3.out, put_more _ _ _⟩

set_option maxRecDepth 20000 in
set_option maxHeartbeats 4000000 in
theorem act_3 (w0 w : World) (p : Addr) (g : Nat) (M : TabM.T) (D : TDuo w0 w p g M M) (k n : Int) (s : ByteArray) (hk : (wrap64 (k.tmod 5 + 5)).tmod 5 = 3) (hs : s.size ≤ 20) (hl : M.l.length ≤ 999) :
    Calls Try.prog 9 #[.pointer (some p), .pointer (some ⟨g, 0, none⟩), .agg #[.int .i64 k, .int .i64 n, .string s]] w fun e w' => ∃ M', e = .returned (.bool true) ∧ TDuo w0 w' p g M' M' ∧ M'.l.length ≤ M.l.length + 1 := by
  have DD := Lib.hid D
  have AL : Hid (Below w.heap.size w (w.alloc (.cells #[.int .i64 k, .int .i64 n, .string s] 30))) := (Below.refl _ w).alloc (Nat.le_refl _) _
  have HN := Lib.hid D.nodup
  have HS : Hid (s.size ≤ 64 ∧ M.l.length ≤ 999) := ⟨by omega, hl⟩
  have hbx := D.2.size
  obtain ⟨x, hx⟩ : ∃ x, TabM.was M.l s.data.toList = x := ⟨_, rfl⟩
  obtain ⟨b, hb⟩ : ∃ b, TabM.is M.l s.data.toList = b := ⟨_, rfl⟩
  have HX := Lib.hid (And.intro hx hb)
  have K0 : Hid (∀ (v : Value) (n : Int), pair n b = .tuple #[.int .i64 n, .bool b]) := fun _ _ => rfl
  have bb : (b == b) = true := by simp
  clear D hs hl hx hb hbx
  go_enter Try.func9, Try.ntmps9
  go_wp2_with fail
  go_at_call 19
  refine (get_both DD.out AL.out s HS.out.1).mono ?_
  rintro e w2 ⟨rfl, h2, hkb⟩
  have H2 := Lib.hid h2
  clear h2
  rw [HX.out.1, HX.out.2, show pair x b = .tuple #[.int .i64 x, .bool b] from rfl]
  have cb : ∀ i, i < 3 → w2.cell? ⟨w.heap.size, i, none⟩ = (#[.int .i64 k, .int .i64 n, .string s] : Array Value)[i]? := fun i _ => by
    have e := hkb w.heap.size (Nat.le_refl _) (by simp)
    rw [World.cell?_of_block e, World.cell?_alloc_new]
  have cb0 : w2.cell? ⟨w.heap.size, 2, none⟩ = some (.string s) := cb 2 (by decide)
  have cb1 : w2.cell? ⟨w.heap.size, 1, none⟩ = some (.int .i64 n) := cb 1 (by decide)
  clear cb hkb
  go_wp2_with fail
  go_at_call 24
  refine (xget_both H2.out s).mono ?_
  rintro e w3 ⟨rfl, h3⟩
  have H3 := Lib.hid h3
  clear h3
  rw [HX.out.1, HX.out.2, show pair x b = .tuple #[.int .i64 x, .bool b] from rfl]
  go_wp2_with fail
  go_ret
  exact ⟨M, by first | rfl | simp, H3.out, Nat.le_succ _⟩

set_option maxRecDepth 20000 in
set_option maxHeartbeats 4000000 in
theorem act_4 (w0 w : World) (p : Addr) (g : Nat) (M : TabM.T) (D : TDuo w0 w p g M M) (k n : Int) (s : ByteArray) (hk : (wrap64 (k.tmod 5 + 5)).tmod 5 = 4) (hs : s.size ≤ 20) (hl : M.l.length ≤ 999) :
    Calls Try.prog 9 #[.pointer (some p), .pointer (some ⟨g, 0, none⟩), .agg #[.int .i64 k, .int .i64 n, .string s]] w fun e w' => ∃ M', e = .returned (.bool true) ∧ TDuo w0 w' p g M' M' ∧ M'.l.length ≤ M.l.length + 1 := by
  have DD := Lib.hid D
  have AL : Hid (Below w.heap.size w (w.alloc (.cells #[.int .i64 k, .int .i64 n, .string s] 30))) := (Below.refl _ w).alloc (Nat.le_refl _) _
  have HN := Lib.hid D.nodup
  have HS : Hid (s.size ≤ 64 ∧ M.l.length ≤ 999) := ⟨by omega, hl⟩
  have hbx := D.2.size
  obtain ⟨x, hx⟩ : ∃ x, TabM.was M.l s.data.toList = x := ⟨_, rfl⟩
  obtain ⟨b, hb⟩ : ∃ b, TabM.is M.l s.data.toList = b := ⟨_, rfl⟩
  have HX := Lib.hid (And.intro hx hb)
  have K0 : Hid (∀ (v : Value) (n : Int), pair n b = .tuple #[.int .i64 n, .bool b]) := fun _ _ => rfl
  have bb : (b == b) = true := by simp
  clear D hs hl hx hb hbx
  go_enter Try.func9, Try.ntmps9
  go_wp2_with fail
  go_at_call 20
  refine (del_both DD.out AL.out s HS.out.1).mono ?_
  rintro e w2 ⟨rfl, h2, hkb⟩
  have H2 := Lib.hid h2
  clear h2
  rw [HX.out.1, HX.out.2, show pair x b = .tuple #[.int .i64 x, .bool b] from rfl]
  have cb : ∀ i, i < 3 → w2.cell? ⟨w.heap.size, i, none⟩ = (#[.int .i64 k, .int .i64 n, .string s] : Array Value)[i]? := fun i _ => by
    have e := hkb w.heap.size (Nat.le_refl _) (by simp)
    rw [World.cell?_of_block e, World.cell?_alloc_new]
  have cb0 : w2.cell? ⟨w.heap.size, 2, none⟩ = some (.string s) := cb 2 (by decide)
  have cb1 : w2.cell? ⟨w.heap.size, 1, none⟩ = some (.int .i64 n) := cb 1 (by decide)
  clear cb hkb
  go_wp2_with fail
  go_at_call 25
  refine (xdel_both HN.out H2.out s).mono ?_
  rintro e w3 ⟨rfl, h3⟩
  have H3 := Lib.hid h3
  clear h3
  rw [HX.out.1, HX.out.2, show pair x b = .tuple #[.int .i64 x, .bool b] from rfl]
  go_wp2_with fail
  go_ret
  exact ⟨TabM.del M s.data.toList, by first | rfl | simp, H3.out, del_more _ _⟩

end Go.Proofs.Ytedpanfdkdbblaa
