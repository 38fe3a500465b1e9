/- The document's parser: any statement; all its functions at every depth of calls; Script. -/
import Derived.Test.YteakhlnnepjhpaaKm
import Derived.Test.YteakhlnnepjhpaaKn
import Derived.Test.YteakhlnnepjhpaaKo
import Derived.Test.YteakhlnnepjhpaaKp
import Derived.Test.YteakhlnnepjhpaaKq
import Derived.Test.YteakhlnnepjhpaaKr
import Derived.Test.YteakhlnnepjhpaaKc
import Derived.Test.YteakhlnnepjhpaaKh
import Derived.Test.YteakhlnnepjhpaaKi
import Derived.Test.YteakhlnnepjhpaaKd
import Derived.Test.YteakhlnnepjhpaaKe
import Derived.Test.YteakhlnnepjhpaaKs
namespace Go.Proofs.Yteakhlnnepjhpaa
open Go.RowKit PrM
set_option linter.unusedVariables false
section
variable {F g tg c : Nat} {T : List LxM.T}
theorem stat_any (hG : PrM.Good T) (hF : OkF g tg c T F) (W : World) (st : St) (a : Int) (b d : Nat) (h : PS W g tg c T st) (hb : Blk W b #[.int .i64 0, .int .i64 a, .slice none 0 0, .slice none 0 0, .slice none 0 0] 42) (hgb : g < b) (h0 : st.code = 0) (hd : d ≤ 100) (hm : 100 * (101 - d) + 6 ≤ F + 1) :
  Calls Try.prog 38 #[ptr g, ptr b, .int .i64 (d : Int)] W (SQ W g b tg c T st ((fs T (F + 1)).stat (.s 0 a [] .nil .nil) d st)) := by
 cases q0 : is T ⟨#[108, 111, 99, 97, 108]⟩ st with
 | true => exact stat_local hG hF W st a b d h hb hgb h0 hd hm q0
 | false =>
 cases q1 : is T ⟨#[105, 102]⟩ st with
 | true => exact stat_if hG hF W st a b d h hb hgb h0 hd hm q0 q1
 | false =>
 cases q2 : is T ⟨#[119, 104, 105, 108, 101]⟩ st with
 | true => exact stat_while hG hF W st a b d h hb hgb h0 hd hm q0 q1 q2
 | false =>
 cases q3 : is T ⟨#[114, 101, 112, 101, 97, 116]⟩ st with
 | true => exact stat_repeat hG hF W st a b d h hb hgb h0 hd hm q0 q1 q2 q3
 | false =>
 cases q4 : is T ⟨#[102, 111, 114]⟩ st with
 | true =>
  cases hc1 : is T ⟨#[44]⟩ (nameS T (up st)) with
  | true => exact stat_each hG hF W st a b d h hb hgb h0 hd hm q0 q1 q2 q3 q4 hc1
  | false =>
   cases hc2 : is T ⟨#[44]⟩ (((fs T F).exp (d : Int) (PrM.take T ⟨#[44]⟩ ((fs T F).exp (d : Int) (PrM.take T ⟨#[61]⟩ (nameS T (up st)))).2)).2) with
   | true => exact stat_for3 hG hF W st a b d h hb hgb h0 hd hm q0 q1 q2 q3 q4 hc1 hc2
   | false => exact stat_for2 hG hF W st a b d h hb hgb h0 hd hm q0 q1 q2 q3 q4 hc1 hc2
 | false =>
 cases q5 : is T ⟨#[98, 114, 101, 97, 107]⟩ st with
 | true => exact stat_break hG hF W st a b d h hb hgb h0 hd hm q0 q1 q2 q3 q4 q5
 | false =>
 cases q6 : is T ⟨#[100, 111]⟩ st with
 | true => exact stat_do hG hF W st a b d h hb hgb h0 hd hm q0 q1 q2 q3 q4 q5 q6
 | false =>
 by_cases hk : ((fs T F).behind (.e 6 (place T st) 0 (nameT T st) 0 .nil .nil) (d : Int) (nameS T st)).1.kind = 10
 ·cases hq : is T ⟨#[61]⟩ ((fs T F).behind (.e 6 (place T st) 0 (nameT T st) 0 .nil .nil) (d : Int) (nameS T st)).2 with
  | true => exact stat_defB hG hF W st a b d h hb hgb h0 hd hm q0 q1 q2 q3 q4 q5 q6 hk hq
  | false => exact stat_defA hG hF W st a b d h hb hgb h0 hd hm q0 q1 q2 q3 q4 q5 q6 hk hq
 ·exact stat_defC hG hF W st a b d h hb hgb h0 hd hm q0 q1 q2 q3 q4 q5 q6 hk
theorem level_any (hG : PrM.Good T) (hF : OkF g tg c T F) (W : World) (st : St) (n d : Nat) (h : PS W g tg c T st) (hn : n ≤ 6) (hd : d ≤ 101) (hcd : st.code = 0 → d ≤ 100) (hm : 100 * (101 - d) + (20 - 2 * n) ≤ F + 1) : Calls Try.prog 48 #[ptr g, .int .i64 (n : Int), .int .i64 (d : Int)] W (RE W g tg c T st ((fs T (F + 1)).level n d st)) := by
 by_cases h0 : st.code = 0
 ·have h1 := hcd h0
  match n, hn, hm with
  | 0, _, hm => exact level_at0 hG hF W st d h h1 h0 (by omega)
  | 1, _, hm => exact level_at1 hG hF W st d h h1 h0 (by omega)
  | 2, _, hm => exact level_at2 hG hF W st d h h1 h0 (by omega)
  | 3, hn, hm => exact level_near hF W st 3 d h hn hd hcd hm (.inr (.inl rfl))
  | 4, _, hm => exact level_at4 hG hF W st d h h1 h0 (by omega)
  | 5, _, hm => exact level_at5 hG hF W st d h h1 h0 (by omega)
  | 6, hn, hm => exact level_near hF W st 6 d h hn hd hcd hm (.inr (.inr rfl))
  | n + 7, hn, _ => omega
 ·exact level_near hF W st n d h hn hd hcd hm (.inl h0)
end
theorem okF_all (g tg c : Nat) (T : List LxM.T) (F : Nat) (hG : PrM.Good T) : OkF g tg c T F := by
 induction F with
 | zero => exact okF_zero g tg c T
 | succ F hF =>
  exact {
   exp := fun W st d h hd hm => exp_any hF W st d h hd hm
   level := fun W st n d h hn hd hcd hm => level_any hG hF W st n d h hn hd hcd hm
   join := fun W st d h h0 hd hm => join_any hG hF W st d h h0 hd hm
   unary := fun W st d h h0 hd hm => unary_any hG hF W st d h h0 hd hm
   post := fun W st d h hd hm => post_any hG hF W st d h hd hm
   table := fun W st a d h hd hm => table_any hG hF W st a d h hd hm
   body := fun W st d h hd hm => body_any hG hF W st d h hd hm
   block := fun W st d h hd hm => block_any hG hF W st d h hd hm
   behind := fun W st P x v0 v1 v2 v3 v4 v5 v6 d h rd hP hd hm => behind_any hG hF W st P x v0 v1 v2 v3 v4 v5 v6 d h rd hP hd hm
   stat := fun W st a b d h hb hgb h0 hd hm => stat_any hG hF W st a b d h hb hgb h0 hd hm }
/-- Script, of any text of at most 2,000 bytes. -/
theorem script_any (W : World) (s : ByteArray) (hs : s.size ≤ 2000) : Calls Try.prog 6 #[.string s] W (ScR (LxM.lex s.data.toList) W) :=
 rscript_any (fun g tg c T F hG => okF_all g tg c T F hG) W s hs
end Go.Proofs.Yteakhlnnepjhpaa
