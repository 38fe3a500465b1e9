/- Package table: the names of an array's chains, one behind the other. -/
import Derived.Test.YtedpanfdkdbblaaTbFind
namespace Go.Proofs.Ytedpanfdkdbblaa
open Go.RowKit
set_option linter.unusedVariables false
theorem infoStr : (Try.prog.info? 9).map (fun i => (i.zero, i.size, i.bytes)) = some (some (.string ⟨#[]⟩), 1, 16) := by kernel_rfl
theorem wpList_append_str {w : World} {ops : Array Oper} {rest : List Oper} {o : Oper} {a : Act} {Q : Exit → Act → World → Prop} (hgd : o.guard = none) (s x : Operand)
    (ho : o.op = .call { callee := .builtin .append, args := #[s, x], argTypes := #[35, 35] })
    (w0 : World) (v : Value) (n : Nat) (xs : List Value) (hs : a.eval s = v) (hown : w.ownsRow w0.heap.size 9 1 v n xs) (hb : Below w0.heap.size w0 w)
    (p : Addr) (c : Nat) (y : Value) (hy : y.oneCell' = true) (hx : a.eval x = .slice (some p) 1 c) (hc : w.cell? p = some y) (h63 : n ≤ 1099511627776)
    (h : ∀ v' w', w'.ownsRow w0.heap.size 9 1 v' (n + 1) (xs ++ [y]) → Below w0.heap.size w0 w' → wpList Try.prog ops Q rest (a.put o.dst v') w') :
    wpList Try.prog ops Q (o :: rest) a w := by
  obtain ⟨i, hi, hz, h1, h2⟩ := info_parts infoStr
  refine wpList_append_own_at w hgd s x 35 ho w0.heap.size 9 i _ 1 16 Try.underlying35 hi hz h1 h2 rfl (by decide) v n xs hs hown p 1 c [y] hx rfl (fun j u hu => ?_) (fun u hu => by simp at hu; subst hu; exact hy) (by unfold maxLen; omega) (by omega) hb.size fun v' w' g1 g2 _ g4 => h v' w' g1 (hb.grown g2 hb.size fun j hj => (hown.lt j hj).1)
  obtain ⟨hj, rfl⟩ := List.getElem?_eq_some_iff.1 hu
  have : j = 0 := by simpa using hj
  subst this
  rw [show p.add 0 = p by simp [Addr.add]]
  exact hc
theorem cell_one (w : World) (u : Value) (t : TypeId) : (w.alloc (.cells #[u] t)).cell? ⟨w.heap.size, 0, none⟩ = some u := by
  rw [World.cell?_alloc_new]
  rfl
/-- A name as a value. -/
def sv (s : List UInt8) : Value := .string ⟨s.toArray⟩
/-- A row of names of the call's own. -/
def Row (w0 w : World) (v : Value) (ss : List (List UInt8)) : Prop := w.ownsRow w0.heap.size 9 1 v ss.length (ss.map sv)
theorem row_snoc {w0 w : World} {v : Value} {ss : List (List UInt8)} {s : List UInt8} (h : w.ownsRow w0.heap.size 9 1 v (ss.length + 1) (ss.map sv ++ [sv s])) : Row w0 w v (ss ++ [s]) := by
  unfold Row
  rw [List.map_append, List.length_append]
  exact h
theorem take_flat (cs : List (List Nd)) (k : Nat) (h : k < cs.length) : (cs.take (k + 1)).flatten = (cs.take k).flatten ++ chainAt cs k := by
  rw [List.take_add_one, List.getElem?_eq_getElem h, Option.toList_some, List.flatten_append, chainAt_is h]
  simp
theorem flat_take_le (cs : List (List Nd)) (k : Nat) : (cs.take k).flatten.length ≤ cs.flatten.length := by
  have e : cs.flatten = (cs.take k).flatten ++ (cs.drop k).flatten := by rw [← List.flatten_append, List.take_append_drop]
  rw [e, List.length_append]
  omega
theorem row_keep {w0 w w' : World} {v : Value} {ss : List (List UInt8)} (h : Row w0 w v ss) (hb : Below w.heap.size w w') : Row w0 w' v ss := by
  unfold Row World.ownsRow at h ⊢
  refine ⟨h.1, ?_⟩
  rcases h.2 with e | ⟨g, cap, cur, e, hg, hc, r⟩
  · exact .inl e
  · refine .inr ⟨g, cap, cur, e, hg, ?_, r⟩
    have lt : g < w.heap.size := by
      rcases Nat.lt_or_ge g w.heap.size with k | k
      · exact k
      · rw [Array.getElem?_eq_none k] at hc; cases hc
    rw [hb.block g lt]; exact hc
set_option maxRecDepth 20000 in
set_option maxHeartbeats 4000000 in
theorem appendNames_any (w0 w : World) (B : Nat) (cs : List (List Nd)) (hA : Arr w0 B cs) (v : Value) (xs : List (List UInt8)) (hr : Row w0 w v xs) (hb : Below w0.heap.size w0 w) (h9 : cs.length ≤ 1048576) (hx : xs.length + cs.flatten.length ≤ 1048576) :
    Calls Try.prog 26 #[.slice (some ⟨B, 0, none⟩) cs.length cs.length, v] w fun e w' => ∃ v', e = .returned v' ∧ Row w0 w' v' (xs ++ cs.flatten.map Nd.s) ∧ Below w0.heap.size w0 w' := by
  have HA := Lib.hid hA
  have HR := Lib.hid hr
  have HB := Lib.hid hb
  have HX := Lib.hid hx
  obtain ⟨n, hn⟩ : ∃ n, cs.length = n := ⟨_, rfl⟩
  have HN := Lib.hid hn
  rw [hn] at h9 ⊢
  have n9 : (n : Int) ≤ 1048576 := by omega
  clear hA hr hb hx hn
  go_enter Try.func26, Try.ntmps26
  go_wp2_with fail
  go_loopw [1, 6, 9] (fun v e i wr => ∃ k : Nat, k ≤ n ∧ i = .int .i64 k ∧ Row w0 wr v (xs ++ (cs.take k).flatten.map Nd.s) ∧ Below w0.heap.size w0 wr) (fun _ _ i _ => n - (intOf i).toNat)
  case atStart => exact ⟨0, Nat.zero_le _, rfl, by rw [List.take_zero, List.flatten_nil, List.map_nil, List.append_nil]; exact HR.out, HB.out⟩
  case round =>
    obtain ⟨k, hk, rfl, hrow, hbel⟩ := hrel
    have R1 := Lib.hid hrow
    have B1 := Lib.hid hbel
    clear hrow hbel
    have k0 : (0 : Int) ≤ (k : Int) := by omega
    by_cases hlt : k < n
    · have k1 : (k : Int) < (n : Int) := by omega
      have CH : Hid (Chain w0 ⟨B, k, none⟩ (chainAt cs k)) := HA.out.at_ (by rw [HN.out]; exact hlt)
      obtain ⟨o, ho⟩ := hd_ptr (chainAt cs k)
      have c1 : wr.cell? ⟨B, k, none⟩ = some (.pointer o) := by rw [B1.out.cell HA.out.lt, CH.out.at_, ho]
      have HO := Lib.hid ho
      have HLT := Lib.hid hlt
      clear ho
      go_wp2_with fail
      go_loopg [1, 6] (chainAt cs k).length (fun g v e wr2 => ∃ pre ns, chainAt cs k = pre ++ ns ∧ ns.length = g ∧ e = hd ns ∧ Row w0 wr2 v (xs ++ (cs.take k).flatten.map Nd.s ++ pre.map Nd.s) ∧ Below w0.heap.size w0 wr2)
      case atStart => exact ⟨[], chainAt cs k, (List.nil_append _).symm, rfl, HO.out.symm, by rw [List.map_nil, List.append_nil]; exact R1.out, B1.out⟩
      case round =>
        obtain ⟨pre, ns, hc, hl, rfl, hrow, hbel⟩ := hrel
        have R2 := Lib.hid hrow
        have B2 := Lib.hid hbel
        have HC := Lib.hid hc
        have HL := Lib.hid hl
        clear hrow hbel hc hl c1
        cases ns with
        | nil =>
          rw [show hd [] = .pointer none from rfl]
          go_wp2_with fail
          go_roundw
          case rel => exact ⟨k + 1, HLT.out, by go_num, by
            have h1 := take_flat cs k (by rw [HN.out]; exact HLT.out)
            have h2 := HC.out
            rw [List.append_nil] at h2
            rw [h1, h2, List.map_append, ← List.append_assoc]
            exact R2.out, B2.out⟩
          case measure => simp [intOf]; have := HLT.out; omega
        | cons x r =>
          rw [show hd (x :: r) = .pointer (some ⟨x.b, 0, none⟩) from rfl]
          have nd : NdAt w0 x (hd r) := by
            have c := CH.out
            rw [HC.out] at c
            exact c.link.seg.1
          have xl := nd.lt
          have d0 : wr.cell? ⟨x.b, 0, none⟩ = some (.string ⟨x.s.toArray⟩) := by rw [B2.out.cell nd.lt]; exact nd.name
          have ND := Lib.hid nd
          have few : Hid ((xs ++ (cs.take k).flatten.map Nd.s ++ pre.map Nd.s).length ≤ 1099511627776) := by
            show (xs ++ (cs.take k).flatten.map Nd.s ++ pre.map Nd.s).length ≤ 1099511627776
            have h1 := flat_take_le cs (k + 1)
            rw [take_flat cs k (by rw [HN.out]; exact HLT.out), HC.out] at h1
            have := HX.out
            simp only [List.length_append, List.length_map] at h1 ⊢
            omega
          obtain ⟨o2, ho2⟩ := hd_ptr r
          have HO2 := Lib.hid ho2
          have HG : Hid (r.length < gk) := by show r.length < gk; rw [← HL.out]; simp
          clear nd ho2
          go_wp2_with (at_builtin; go_loud (refine wpList_append_str rfl (.tmp 19) (.tmp 24) rfl w0 _ _ _ rfl (row_keep R2.out ((Below.refl _ _).alloc (Nat.le_refl _) _)) (B2.out.alloc B2.out.size _) ⟨wr.heap.size, 0, none⟩ _ (.string ⟨x.s.toArray⟩) rfl rfl (cell_one _ _ _) few.out ?_); intro v4 w4 own4 bw4; have O4 := Lib.hid own4; have B4 := Lib.hid bw4; clear own4 bw4; have d2 : w4.cell? ⟨x.b, 2, none⟩ = some (.pointer o2) := by rw [B4.out.cell ND.out.lt, ← HO2.out]; exact ND.out.next)
          go_roundg r.length
          case measure => exact HG.out
          case rel => exact ⟨pre ++ [x], r, by rw [HC.out]; simp, rfl, HO2.out.symm, by
            rw [List.map_append, ← List.append_assoc]
            exact row_snoc O4.out, B4.out⟩
    · have k1 : (n : Int) ≤ (k : Int) := by omega
      have e : (cs.take k).flatten = cs.flatten := by rw [List.take_of_length_le (by rw [HN.out]; omega)]
      rw [e] at R1
      clear e
      go_wp2_with fail
      go_ret
      exact ⟨_, rfl, R1.out, B1.out⟩
end Go.Proofs.Ytedpanfdkdbblaa
