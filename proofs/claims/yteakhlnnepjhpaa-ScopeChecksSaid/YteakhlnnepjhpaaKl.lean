/- The document's parser: a table's key: does a name and a '=' stand here (printed by genpr9.py)? -/
import Derived.Test.YteakhlnnepjhpaaKc
import Derived.Test.YteakhlnnepjhpaaKf
import Derived.Deep.RegionHeld3
namespace Go.Proofs.Yteakhlnnepjhpaa
open Go.RowKit PrM
set_option linter.unusedVariables false
set_option linter.unusedSimpArgs false
theorem PS.tok_next {W : World} {g tg c : Nat} {T : List LxM.T} {st : St} (h : PS W g tg c T st) (hn : st.i + 1 < T.length) : W.cell? ⟨tg, (st.i + 1) * 4, none⟩ = some (.int .i64 (PrM.tk T (up st)).kind) ∧ W.cell? ⟨tg, (st.i + 1) * 4 + 1, none⟩ = some (.string ⟨(PrM.tk T (up st)).text.toArray⟩) := by
 have e : PrM.tk T (up st) = T[st.i + 1]'hn := by
  unfold PrM.tk PrM.up
  rw [List.getD_eq_getElem?_getD, List.getElem?_eq_getElem hn]
  rfl
 obtain ⟨x, y, z, u⟩ := tcells_at T (st.i + 1) hn
 rw [e]
 exact ⟨h.row _ _ x, h.row _ _ y⟩
abbrev reg13 : Code := .region 13 #[⟨some 54, .move (.tmp 0), 46, "ref.go:545", #[], none⟩,
 ⟨some 55, .nilCheck (.tmp 54), 0, "ref.go:545", #[⟨0, .data⟩], none⟩,
 ⟨some 56, .fieldAddr 48 (.tmp 55) 0, 0, "ref.go:545", #[⟨1, .data⟩], none⟩,
 ⟨some 57, .load 43 (.tmp 56), 43, "ref.go:545", #[⟨2, .data⟩], none⟩,
 ⟨some 58, .move (.tmp 0), 46, "ref.go:545", #[], none⟩,
 ⟨some 59, .nilCheck (.tmp 58), 0, "ref.go:545", #[⟨4, .data⟩], none⟩,
 ⟨some 60, .fieldAddr 48 (.tmp 59) 1, 0, "ref.go:545", #[⟨5, .data⟩], none⟩,
 ⟨some 61, .load 3 (.tmp 60), 3, "ref.go:545", #[⟨6, .data⟩], none⟩,
 ⟨some 62, .indexAddr 43 (.tmp 57) (.tmp 61), 0, "ref.go:545", #[⟨3, .data⟩, ⟨7, .data⟩], none⟩,
 ⟨some 63, .fieldAddr 51 (.tmp 62) 0, 0, "ref.go:545", #[⟨8, .data⟩], none⟩,
 ⟨some 64, .load 3 (.tmp 63), 3, "ref.go:545", #[⟨9, .data⟩], none⟩,
 ⟨some 65, .binOp .eql 3 (.tmp 64) (.const (.int .i64 2)) 3, 4, "ref.go:545", #[⟨10, .data⟩], none⟩,
 ⟨some 66, .move (.tmp 65), 4, "ref.go:545", #[⟨11, .data⟩], none⟩,
 ⟨some 67, .move (.tmp 0), 46, "ref.go:545", #[⟨12, .guard⟩], some (12, true)⟩,
 ⟨some 68, .nilCheck (.tmp 67), 0, "ref.go:545", #[⟨13, .data⟩, ⟨12, .guard⟩], some (12, true)⟩,
 ⟨some 69, .fieldAddr 48 (.tmp 68) 0, 0, "ref.go:545", #[⟨14, .data⟩, ⟨12, .guard⟩], some (12, true)⟩,
 ⟨some 70, .load 43 (.tmp 69), 43, "ref.go:545", #[⟨15, .data⟩, ⟨12, .guard⟩], some (12, true)⟩,
 ⟨some 71, .move (.tmp 0), 46, "ref.go:545", #[⟨12, .guard⟩], some (12, true)⟩,
 ⟨some 72, .nilCheck (.tmp 71), 0, "ref.go:545", #[⟨17, .data⟩, ⟨12, .guard⟩], some (12, true)⟩,
 ⟨some 73, .fieldAddr 48 (.tmp 72) 1, 0, "ref.go:545", #[⟨18, .data⟩, ⟨12, .guard⟩], some (12, true)⟩,
 ⟨some 74, .load 3 (.tmp 73), 3, "ref.go:545", #[⟨19, .data⟩, ⟨12, .guard⟩], some (12, true)⟩,
 ⟨some 75, .binOp .add 3 (.tmp 74) (.const (.int .i64 1)) 3, 3, "ref.go:545", #[⟨20, .data⟩, ⟨12, .guard⟩], some (12, true)⟩,
 ⟨some 76, .indexAddr 43 (.tmp 70) (.tmp 75), 0, "ref.go:545", #[⟨16, .data⟩, ⟨21, .data⟩, ⟨12, .guard⟩], some (12, true)⟩,
 ⟨some 77, .fieldAddr 51 (.tmp 76) 0, 0, "ref.go:545", #[⟨22, .data⟩, ⟨12, .guard⟩], some (12, true)⟩,
 ⟨some 78, .load 3 (.tmp 77), 3, "ref.go:545", #[⟨23, .data⟩, ⟨12, .guard⟩], some (12, true)⟩,
 ⟨some 79, .binOp .eql 3 (.tmp 78) (.const (.int .i64 5)) 3, 4, "ref.go:545", #[⟨24, .data⟩, ⟨12, .guard⟩], some (12, true)⟩,
 ⟨some 80, .pick (.tmp 66) (.tmp 79) (.const (.bool false)), 4, "ref.go:545", #[⟨12, .data⟩, ⟨25, .data⟩], none⟩,
 ⟨some 81, .move (.tmp 80), 4, "ref.go:545", #[⟨26, .data⟩, ⟨12, .chain⟩], none⟩,
 ⟨some 82, .move (.tmp 0), 46, "ref.go:545", #[⟨27, .guard⟩], some (27, true)⟩,
 ⟨some 83, .nilCheck (.tmp 82), 0, "ref.go:545", #[⟨28, .data⟩, ⟨27, .guard⟩], some (27, true)⟩,
 ⟨some 84, .fieldAddr 48 (.tmp 83) 0, 0, "ref.go:545", #[⟨29, .data⟩, ⟨27, .guard⟩], some (27, true)⟩,
 ⟨some 85, .load 43 (.tmp 84), 43, "ref.go:545", #[⟨30, .data⟩, ⟨27, .guard⟩], some (27, true)⟩,
 ⟨some 86, .move (.tmp 0), 46, "ref.go:545", #[⟨27, .guard⟩], some (27, true)⟩,
 ⟨some 87, .nilCheck (.tmp 86), 0, "ref.go:545", #[⟨32, .data⟩, ⟨27, .guard⟩], some (27, true)⟩,
 ⟨some 88, .fieldAddr 48 (.tmp 87) 1, 0, "ref.go:545", #[⟨33, .data⟩, ⟨27, .guard⟩], some (27, true)⟩,
 ⟨some 89, .load 3 (.tmp 88), 3, "ref.go:545", #[⟨34, .data⟩, ⟨27, .guard⟩], some (27, true)⟩,
 ⟨some 90, .binOp .add 3 (.tmp 89) (.const (.int .i64 1)) 3, 3, "ref.go:545", #[⟨35, .data⟩, ⟨27, .guard⟩], some (27, true)⟩,
 ⟨some 91, .indexAddr 43 (.tmp 85) (.tmp 90), 0, "ref.go:545", #[⟨31, .data⟩, ⟨36, .data⟩, ⟨27, .guard⟩], some (27, true)⟩,
 ⟨some 92, .fieldAddr 51 (.tmp 91) 1, 0, "ref.go:545", #[⟨37, .data⟩, ⟨27, .guard⟩], some (27, true)⟩,
 ⟨some 93, .load 9 (.tmp 92), 9, "ref.go:545", #[⟨38, .data⟩, ⟨27, .guard⟩], some (27, true)⟩,
 ⟨some 94, .binOp .eql 9 (.tmp 93) (.const (.string ⟨#[61]⟩)) 9, 4, "ref.go:545", #[⟨39, .data⟩, ⟨27, .guard⟩], some (27, true)⟩,
 ⟨some 95, .pick (.tmp 81) (.tmp 94) (.const (.bool false)), 4, "ref.go:545", #[⟨27, .data⟩, ⟨40, .data⟩], none⟩,
 ⟨some 53, .assign (.tmp 95), 4, "ref.go:545", #[⟨41, .data⟩, ⟨27, .chain⟩], none⟩] true
section
variable {W : World} {g tg c : Nat} {T : List LxM.T} {st : St}
set_option maxRecDepth 20000 in
set_option maxHeartbeats 16000000 in
theorem reg13_a (h : PS W g tg c T st) (k0 : ((PrM.tk T st).kind == 2) = false) (a1 a2 a3 a4 a5 a6 a7 a8 a9 a10 a11 a12 a13 a14 a15 a16 a17 a18 a19 a20 a21 a22 a23 a24 a25 a26 a27 a28 a29 a30 a31 a32 a33 a34 a35 a36 a37 a38 a39 a40 a41 a42 a43 a44 a45 a46 a47 a48 a49 a50 a51 a52 a53 a54 a55 a56 a57 a58 a59 a60 a61 a62 a63 a64 a65 a66 a67 a68 a69 a70 a71 a72 a73 a74 a75 a76 a77 a78 a79 a80 a81 a82 a83 a84 a85 a86 a87 a88 a89 a90 a91 a92 a93 a94 a95 a96 a97 a98 a99 a100 a101 a102 a103 a104 a105 a106 a107 a108 a109 a110 a111 a112 a113 a114 a115 a116 a117 a118 a119 a120 a121 a122 : Value) (Q : Exit → Act → World → Prop) (hQ : ∀ (b54 b55 b56 b57 b58 b59 b60 b61 b62 b63 b64 b65 b66 b67 b68 b69 b70 b71 b72 b73 b74 b75 b76 b77 b78 b79 b80 b81 b82 b83 b84 b85 b86 b87 b88 b89 b90 b91 b92 b93 b94 b95 : Value), Q .normal ⟨List.toArray (ptr g :: a1 :: a2 :: a3 :: a4 :: a5 :: a6 :: a7 :: a8 :: a9 :: a10 :: a11 :: a12 :: a13 :: a14 :: a15 :: a16 :: a17 :: a18 :: a19 :: a20 :: a21 :: a22 :: a23 :: a24 :: a25 :: a26 :: a27 :: a28 :: a29 :: a30 :: a31 :: a32 :: a33 :: a34 :: a35 :: a36 :: a37 :: a38 :: a39 :: a40 :: a41 :: a42 :: a43 :: a44 :: a45 :: a46 :: a47 :: a48 :: a49 :: a50 :: a51 :: a52 :: .bool false :: b54 :: b55 :: b56 :: b57 :: b58 :: b59 :: b60 :: b61 :: b62 :: b63 :: b64 :: b65 :: b66 :: b67 :: b68 :: b69 :: b70 :: b71 :: b72 :: b73 :: b74 :: b75 :: b76 :: b77 :: b78 :: b79 :: b80 :: b81 :: b82 :: b83 :: b84 :: b85 :: b86 :: b87 :: b88 :: b89 :: b90 :: b91 :: b92 :: b93 :: b94 :: b95 :: a96 :: a97 :: a98 :: a99 :: a100 :: a101 :: a102 :: a103 :: a104 :: a105 :: a106 :: a107 :: a108 :: a109 :: a110 :: a111 :: a112 :: a113 :: a114 :: a115 :: a116 :: a117 :: a118 :: a119 :: a120 :: a121 :: a122 :: []), []⟩ W.drew) : Code.wp Try.prog reg13 Q ⟨List.toArray (ptr g :: a1 :: a2 :: a3 :: a4 :: a5 :: a6 :: a7 :: a8 :: a9 :: a10 :: a11 :: a12 :: a13 :: a14 :: a15 :: a16 :: a17 :: a18 :: a19 :: a20 :: a21 :: a22 :: a23 :: a24 :: a25 :: a26 :: a27 :: a28 :: a29 :: a30 :: a31 :: a32 :: a33 :: a34 :: a35 :: a36 :: a37 :: a38 :: a39 :: a40 :: a41 :: a42 :: a43 :: a44 :: a45 :: a46 :: a47 :: a48 :: a49 :: a50 :: a51 :: a52 :: a53 :: a54 :: a55 :: a56 :: a57 :: a58 :: a59 :: a60 :: a61 :: a62 :: a63 :: a64 :: a65 :: a66 :: a67 :: a68 :: a69 :: a70 :: a71 :: a72 :: a73 :: a74 :: a75 :: a76 :: a77 :: a78 :: a79 :: a80 :: a81 :: a82 :: a83 :: a84 :: a85 :: a86 :: a87 :: a88 :: a89 :: a90 :: a91 :: a92 :: a93 :: a94 :: a95 :: a96 :: a97 :: a98 :: a99 :: a100 :: a101 :: a102 :: a103 :: a104 :: a105 :: a106 :: a107 :: a108 :: a109 :: a110 :: a111 :: a112 :: a113 :: a114 :: a115 :: a116 :: a117 :: a118 :: a119 :: a120 :: a121 :: a122 :: []), []⟩ W := by
 have P := Lib.hid (h.sm (Sm.drewn W))
 have i0 : (0 : Int) ≤ (st.i : Int) := by omega
 have i1 : (st.i : Int) < (T.length : Int) := by have := h.inb; omega
 have i2 : (st.i : Int) < 100000 := by have := h.inb; have := h.small; omega
 have hc : (T.length : Int) ≤ (c : Int) := by have := h.cap; omega
 clear h
 refine wp_region_noPanic ?_
 refine wp_region_held_drew (S := fun W => PS W g tg c T st) (by kernel_rfl) P.out (fun hH0 => ?_)
 refine tkH 0 hH0 ?_
 refine tkH 1 hH0 ?_
 refine tkH 2 hH0 ?_
 refine tkH 3 hH0 ?_
 refine tkH 4 hH0 ?_
 refine tkH 5 hH0 ?_
 refine tkH 6 hH0 ?_
 refine tkH 7 hH0 ?_
 refine tkH 8 hH0 ?_
 refine tkH 9 hH0 ?_
 refine tkH 10 hH0 ?_
 refine tkH 11 hH0 ?_
 refine tkH 12 hH0 ?_
 refine tkH 13 hH0 ?_
 refine tkH 14 hH0 ?_
 refine tkH 15 hH0 ?_
 refine tkH 16 hH0 ?_
 refine tkH 17 hH0 ?_
 refine tkH 18 hH0 ?_
 refine tkH 19 hH0 ?_
 refine tkH 20 hH0 ?_
 refine tkH 21 hH0 ?_
 refine tkH 22 hH0 ?_
 refine tkH 23 hH0 ?_
 refine tkH 24 hH0 ?_
 refine tkH 25 hH0 ?_
 refine tkH 26 hH0 ?_
 refine tkH 27 hH0 ?_
 refine tkH 28 hH0 ?_
 refine tkH 29 hH0 ?_
 refine tkH 30 hH0 ?_
 refine tkH 31 hH0 ?_
 refine tkH 32 hH0 ?_
 refine tkH 33 hH0 ?_
 refine tkH 34 hH0 ?_
 refine tkH 35 hH0 ?_
 refine tkH 36 hH0 ?_
 refine tkH 37 hH0 ?_
 refine tkH 38 hH0 ?_
 refine tkH 39 hH0 ?_
 refine tkH 40 hH0 ?_
 refine tkH 41 hH0 ?_
 refine tkH 42 hH0 ?_
 refine wpAnyH_done (by kernel_rfl) ?_ _
 exact hQ _ _ _ _ _ _ _ _ _ _ _ _ _ _ _ _ _ _ _ _ _ _ _ _ _ _ _ _ _ _ _ _ _ _ _ _ _ _ _ _ _ _
set_option maxRecDepth 20000 in
set_option maxHeartbeats 16000000 in
theorem reg13_b (h : PS W g tg c T st) (k0 : ((PrM.tk T st).kind == 2) = true) (hn : st.i + 1 < T.length) (k1 : ((PrM.tk T (up st)).kind == 5) = false) (a1 a2 a3 a4 a5 a6 a7 a8 a9 a10 a11 a12 a13 a14 a15 a16 a17 a18 a19 a20 a21 a22 a23 a24 a25 a26 a27 a28 a29 a30 a31 a32 a33 a34 a35 a36 a37 a38 a39 a40 a41 a42 a43 a44 a45 a46 a47 a48 a49 a50 a51 a52 a53 a54 a55 a56 a57 a58 a59 a60 a61 a62 a63 a64 a65 a66 a67 a68 a69 a70 a71 a72 a73 a74 a75 a76 a77 a78 a79 a80 a81 a82 a83 a84 a85 a86 a87 a88 a89 a90 a91 a92 a93 a94 a95 a96 a97 a98 a99 a100 a101 a102 a103 a104 a105 a106 a107 a108 a109 a110 a111 a112 a113 a114 a115 a116 a117 a118 a119 a120 a121 a122 : Value) (Q : Exit → Act → World → Prop) (hQ : ∀ (b54 b55 b56 b57 b58 b59 b60 b61 b62 b63 b64 b65 b66 b67 b68 b69 b70 b71 b72 b73 b74 b75 b76 b77 b78 b79 b80 b81 b82 b83 b84 b85 b86 b87 b88 b89 b90 b91 b92 b93 b94 b95 : Value), Q .normal ⟨List.toArray (ptr g :: a1 :: a2 :: a3 :: a4 :: a5 :: a6 :: a7 :: a8 :: a9 :: a10 :: a11 :: a12 :: a13 :: a14 :: a15 :: a16 :: a17 :: a18 :: a19 :: a20 :: a21 :: a22 :: a23 :: a24 :: a25 :: a26 :: a27 :: a28 :: a29 :: a30 :: a31 :: a32 :: a33 :: a34 :: a35 :: a36 :: a37 :: a38 :: a39 :: a40 :: a41 :: a42 :: a43 :: a44 :: a45 :: a46 :: a47 :: a48 :: a49 :: a50 :: a51 :: a52 :: .bool false :: b54 :: b55 :: b56 :: b57 :: b58 :: b59 :: b60 :: b61 :: b62 :: b63 :: b64 :: b65 :: b66 :: b67 :: b68 :: b69 :: b70 :: b71 :: b72 :: b73 :: b74 :: b75 :: b76 :: b77 :: b78 :: b79 :: b80 :: b81 :: b82 :: b83 :: b84 :: b85 :: b86 :: b87 :: b88 :: b89 :: b90 :: b91 :: b92 :: b93 :: b94 :: b95 :: a96 :: a97 :: a98 :: a99 :: a100 :: a101 :: a102 :: a103 :: a104 :: a105 :: a106 :: a107 :: a108 :: a109 :: a110 :: a111 :: a112 :: a113 :: a114 :: a115 :: a116 :: a117 :: a118 :: a119 :: a120 :: a121 :: a122 :: []), []⟩ W.drew) : Code.wp Try.prog reg13 Q ⟨List.toArray (ptr g :: a1 :: a2 :: a3 :: a4 :: a5 :: a6 :: a7 :: a8 :: a9 :: a10 :: a11 :: a12 :: a13 :: a14 :: a15 :: a16 :: a17 :: a18 :: a19 :: a20 :: a21 :: a22 :: a23 :: a24 :: a25 :: a26 :: a27 :: a28 :: a29 :: a30 :: a31 :: a32 :: a33 :: a34 :: a35 :: a36 :: a37 :: a38 :: a39 :: a40 :: a41 :: a42 :: a43 :: a44 :: a45 :: a46 :: a47 :: a48 :: a49 :: a50 :: a51 :: a52 :: a53 :: a54 :: a55 :: a56 :: a57 :: a58 :: a59 :: a60 :: a61 :: a62 :: a63 :: a64 :: a65 :: a66 :: a67 :: a68 :: a69 :: a70 :: a71 :: a72 :: a73 :: a74 :: a75 :: a76 :: a77 :: a78 :: a79 :: a80 :: a81 :: a82 :: a83 :: a84 :: a85 :: a86 :: a87 :: a88 :: a89 :: a90 :: a91 :: a92 :: a93 :: a94 :: a95 :: a96 :: a97 :: a98 :: a99 :: a100 :: a101 :: a102 :: a103 :: a104 :: a105 :: a106 :: a107 :: a108 :: a109 :: a110 :: a111 :: a112 :: a113 :: a114 :: a115 :: a116 :: a117 :: a118 :: a119 :: a120 :: a121 :: a122 :: []), []⟩ W := by
 have P := Lib.hid (h.sm (Sm.drewn W))
 have i0 : (0 : Int) ≤ (st.i : Int) := by omega
 have i1 : (st.i : Int) < (T.length : Int) := by have := h.inb; omega
 have i2 : (st.i : Int) < 100000 := by have := h.inb; have := h.small; omega
 have hc : (T.length : Int) ≤ (c : Int) := by have := h.cap; omega
 have i3 : (0 : Int) ≤ (st.i : Int) + 1 := by omega
 have i4 : (st.i : Int) + 1 < (T.length : Int) := by omega
 have wk : IntKind.i64.wrap ((st.i : Int) + 1) = (st.i : Int) + 1 := by rw [IntKind.wrap_i64]; omega
 have tn : ((st.i : Int) + 1).toNat = st.i + 1 := by omega
 clear h
 refine wp_region_noPanic ?_
 refine wp_region_held_drew (S := fun W => PS W g tg c T st) (by kernel_rfl) P.out (fun hH0 => ?_)
 refine tkH 0 hH0 ?_
 refine tkH 1 hH0 ?_
 refine tkH 2 hH0 ?_
 refine tkH 3 hH0 ?_
 refine tkH 4 hH0 ?_
 refine tkH 5 hH0 ?_
 refine tkH 6 hH0 ?_
 refine tkH 7 hH0 ?_
 refine tkH 8 hH0 ?_
 refine tkH 9 hH0 ?_
 refine tkH 10 hH0 ?_
 refine tkH 11 hH0 ?_
 refine tkH 12 hH0 ?_
 refine tkH 13 hH0 ?_
 refine tkH 14 hH0 ?_
 refine tkH 15 hH0 ?_
 refine tkH 16 hH0 ?_
 refine tkH 17 hH0 ?_
 refine tkH 18 hH0 ?_
 refine tkH 19 hH0 ?_
 refine tkH 20 hH0 ?_
 refine tkH 21 hH0 ?_
 refine tkH 22 hH0 ?_
 refine tkH 23 hH0 ?_
 refine tkH 24 hH0 ?_
 refine tkH 25 hH0 ?_
 refine tkH 26 hH0 ?_
 refine tkH 27 hH0 ?_
 refine tkH 28 hH0 ?_
 refine tkH 29 hH0 ?_
 refine tkH 30 hH0 ?_
 refine tkH 31 hH0 ?_
 refine tkH 32 hH0 ?_
 refine tkH 33 hH0 ?_
 refine tkH 34 hH0 ?_
 refine tkH 35 hH0 ?_
 refine tkH 36 hH0 ?_
 refine tkH 37 hH0 ?_
 refine tkH 38 hH0 ?_
 refine tkH 39 hH0 ?_
 refine tkH 40 hH0 ?_
 refine tkH 41 hH0 ?_
 refine tkH 42 hH0 ?_
 refine wpAnyH_done (by kernel_rfl) ?_ _
 exact hQ _ _ _ _ _ _ _ _ _ _ _ _ _ _ _ _ _ _ _ _ _ _ _ _ _ _ _ _ _ _ _ _ _ _ _ _ _ _ _ _ _ _
set_option maxRecDepth 20000 in
set_option maxHeartbeats 16000000 in
theorem reg13_c (h : PS W g tg c T st) (k0 : ((PrM.tk T st).kind == 2) = true) (hn : st.i + 1 < T.length) (k1 : ((PrM.tk T (up st)).kind == 5) = true) (k2 : ((PrM.tk T (up st)).text == [61]) = false) (a1 a2 a3 a4 a5 a6 a7 a8 a9 a10 a11 a12 a13 a14 a15 a16 a17 a18 a19 a20 a21 a22 a23 a24 a25 a26 a27 a28 a29 a30 a31 a32 a33 a34 a35 a36 a37 a38 a39 a40 a41 a42 a43 a44 a45 a46 a47 a48 a49 a50 a51 a52 a53 a54 a55 a56 a57 a58 a59 a60 a61 a62 a63 a64 a65 a66 a67 a68 a69 a70 a71 a72 a73 a74 a75 a76 a77 a78 a79 a80 a81 a82 a83 a84 a85 a86 a87 a88 a89 a90 a91 a92 a93 a94 a95 a96 a97 a98 a99 a100 a101 a102 a103 a104 a105 a106 a107 a108 a109 a110 a111 a112 a113 a114 a115 a116 a117 a118 a119 a120 a121 a122 : Value) (Q : Exit → Act → World → Prop) (hQ : ∀ (b54 b55 b56 b57 b58 b59 b60 b61 b62 b63 b64 b65 b66 b67 b68 b69 b70 b71 b72 b73 b74 b75 b76 b77 b78 b79 b80 b81 b82 b83 b84 b85 b86 b87 b88 b89 b90 b91 b92 b93 b94 b95 : Value), Q .normal ⟨List.toArray (ptr g :: a1 :: a2 :: a3 :: a4 :: a5 :: a6 :: a7 :: a8 :: a9 :: a10 :: a11 :: a12 :: a13 :: a14 :: a15 :: a16 :: a17 :: a18 :: a19 :: a20 :: a21 :: a22 :: a23 :: a24 :: a25 :: a26 :: a27 :: a28 :: a29 :: a30 :: a31 :: a32 :: a33 :: a34 :: a35 :: a36 :: a37 :: a38 :: a39 :: a40 :: a41 :: a42 :: a43 :: a44 :: a45 :: a46 :: a47 :: a48 :: a49 :: a50 :: a51 :: a52 :: .bool false :: b54 :: b55 :: b56 :: b57 :: b58 :: b59 :: b60 :: b61 :: b62 :: b63 :: b64 :: b65 :: b66 :: b67 :: b68 :: b69 :: b70 :: b71 :: b72 :: b73 :: b74 :: b75 :: b76 :: b77 :: b78 :: b79 :: b80 :: b81 :: b82 :: b83 :: b84 :: b85 :: b86 :: b87 :: b88 :: b89 :: b90 :: b91 :: b92 :: b93 :: b94 :: b95 :: a96 :: a97 :: a98 :: a99 :: a100 :: a101 :: a102 :: a103 :: a104 :: a105 :: a106 :: a107 :: a108 :: a109 :: a110 :: a111 :: a112 :: a113 :: a114 :: a115 :: a116 :: a117 :: a118 :: a119 :: a120 :: a121 :: a122 :: []), []⟩ W.drew) : Code.wp Try.prog reg13 Q ⟨List.toArray (ptr g :: a1 :: a2 :: a3 :: a4 :: a5 :: a6 :: a7 :: a8 :: a9 :: a10 :: a11 :: a12 :: a13 :: a14 :: a15 :: a16 :: a17 :: a18 :: a19 :: a20 :: a21 :: a22 :: a23 :: a24 :: a25 :: a26 :: a27 :: a28 :: a29 :: a30 :: a31 :: a32 :: a33 :: a34 :: a35 :: a36 :: a37 :: a38 :: a39 :: a40 :: a41 :: a42 :: a43 :: a44 :: a45 :: a46 :: a47 :: a48 :: a49 :: a50 :: a51 :: a52 :: a53 :: a54 :: a55 :: a56 :: a57 :: a58 :: a59 :: a60 :: a61 :: a62 :: a63 :: a64 :: a65 :: a66 :: a67 :: a68 :: a69 :: a70 :: a71 :: a72 :: a73 :: a74 :: a75 :: a76 :: a77 :: a78 :: a79 :: a80 :: a81 :: a82 :: a83 :: a84 :: a85 :: a86 :: a87 :: a88 :: a89 :: a90 :: a91 :: a92 :: a93 :: a94 :: a95 :: a96 :: a97 :: a98 :: a99 :: a100 :: a101 :: a102 :: a103 :: a104 :: a105 :: a106 :: a107 :: a108 :: a109 :: a110 :: a111 :: a112 :: a113 :: a114 :: a115 :: a116 :: a117 :: a118 :: a119 :: a120 :: a121 :: a122 :: []), []⟩ W := by
 have P := Lib.hid (h.sm (Sm.drewn W))
 have i0 : (0 : Int) ≤ (st.i : Int) := by omega
 have i1 : (st.i : Int) < (T.length : Int) := by have := h.inb; omega
 have i2 : (st.i : Int) < 100000 := by have := h.inb; have := h.small; omega
 have hc : (T.length : Int) ≤ (c : Int) := by have := h.cap; omega
 have i3 : (0 : Int) ≤ (st.i : Int) + 1 := by omega
 have i4 : (st.i : Int) + 1 < (T.length : Int) := by omega
 have wk : IntKind.i64.wrap ((st.i : Int) + 1) = (st.i : Int) + 1 := by rw [IntKind.wrap_i64]; omega
 have tn : ((st.i : Int) + 1).toNat = st.i + 1 := by omega
 clear h
 refine wp_region_noPanic ?_
 refine wp_region_held_drew (S := fun W => PS W g tg c T st) (by kernel_rfl) P.out (fun hH0 => ?_)
 refine tkH 0 hH0 ?_
 refine tkH 1 hH0 ?_
 refine tkH 2 hH0 ?_
 refine tkH 3 hH0 ?_
 refine tkH 4 hH0 ?_
 refine tkH 5 hH0 ?_
 refine tkH 6 hH0 ?_
 refine tkH 7 hH0 ?_
 refine tkH 8 hH0 ?_
 refine tkH 9 hH0 ?_
 refine tkH 10 hH0 ?_
 refine tkH 11 hH0 ?_
 refine tkH 12 hH0 ?_
 refine tkH 13 hH0 ?_
 refine tkH 14 hH0 ?_
 refine tkH 15 hH0 ?_
 refine tkH 16 hH0 ?_
 refine tkH 17 hH0 ?_
 refine tkH 18 hH0 ?_
 refine tkH 19 hH0 ?_
 refine tkH 20 hH0 ?_
 refine tkH 21 hH0 ?_
 refine tkH 22 hH0 ?_
 refine tkH 23 hH0 ?_
 refine tkH 24 hH0 ?_
 refine tkH 25 hH0 ?_
 refine tkH 26 hH0 ?_
 refine tkH 27 hH0 ?_
 refine tkH 28 hH0 ?_
 refine tkH 29 hH0 ?_
 refine tkH 30 hH0 ?_
 refine tkH 31 hH0 ?_
 refine tkH 32 hH0 ?_
 refine tkH 33 hH0 ?_
 refine tkH 34 hH0 ?_
 refine tkH 35 hH0 ?_
 refine tkH 36 hH0 ?_
 refine tkH 37 hH0 ?_
 refine tkH 38 hH0 ?_
 refine tkH 39 hH0 ?_
 refine tkH 40 hH0 ?_
 refine tkH 41 hH0 ?_
 refine tkH 42 hH0 ?_
 refine wpAnyH_done (by kernel_rfl) ?_ _
 exact hQ _ _ _ _ _ _ _ _ _ _ _ _ _ _ _ _ _ _ _ _ _ _ _ _ _ _ _ _ _ _ _ _ _ _ _ _ _ _ _ _ _ _
set_option maxRecDepth 20000 in
set_option maxHeartbeats 16000000 in
theorem reg13_d (h : PS W g tg c T st) (k0 : ((PrM.tk T st).kind == 2) = true) (hn : st.i + 1 < T.length) (k1 : ((PrM.tk T (up st)).kind == 5) = true) (k2 : ((PrM.tk T (up st)).text == [61]) = true) (a1 a2 a3 a4 a5 a6 a7 a8 a9 a10 a11 a12 a13 a14 a15 a16 a17 a18 a19 a20 a21 a22 a23 a24 a25 a26 a27 a28 a29 a30 a31 a32 a33 a34 a35 a36 a37 a38 a39 a40 a41 a42 a43 a44 a45 a46 a47 a48 a49 a50 a51 a52 a53 a54 a55 a56 a57 a58 a59 a60 a61 a62 a63 a64 a65 a66 a67 a68 a69 a70 a71 a72 a73 a74 a75 a76 a77 a78 a79 a80 a81 a82 a83 a84 a85 a86 a87 a88 a89 a90 a91 a92 a93 a94 a95 a96 a97 a98 a99 a100 a101 a102 a103 a104 a105 a106 a107 a108 a109 a110 a111 a112 a113 a114 a115 a116 a117 a118 a119 a120 a121 a122 : Value) (Q : Exit → Act → World → Prop) (hQ : ∀ (b54 b55 b56 b57 b58 b59 b60 b61 b62 b63 b64 b65 b66 b67 b68 b69 b70 b71 b72 b73 b74 b75 b76 b77 b78 b79 b80 b81 b82 b83 b84 b85 b86 b87 b88 b89 b90 b91 b92 b93 b94 b95 : Value), Q .normal ⟨List.toArray (ptr g :: a1 :: a2 :: a3 :: a4 :: a5 :: a6 :: a7 :: a8 :: a9 :: a10 :: a11 :: a12 :: a13 :: a14 :: a15 :: a16 :: a17 :: a18 :: a19 :: a20 :: a21 :: a22 :: a23 :: a24 :: a25 :: a26 :: a27 :: a28 :: a29 :: a30 :: a31 :: a32 :: a33 :: a34 :: a35 :: a36 :: a37 :: a38 :: a39 :: a40 :: a41 :: a42 :: a43 :: a44 :: a45 :: a46 :: a47 :: a48 :: a49 :: a50 :: a51 :: a52 :: .bool true :: b54 :: b55 :: b56 :: b57 :: b58 :: b59 :: b60 :: b61 :: b62 :: b63 :: b64 :: b65 :: b66 :: b67 :: b68 :: b69 :: b70 :: b71 :: b72 :: b73 :: b74 :: b75 :: b76 :: b77 :: b78 :: b79 :: b80 :: b81 :: b82 :: b83 :: b84 :: b85 :: b86 :: b87 :: b88 :: b89 :: b90 :: b91 :: b92 :: b93 :: b94 :: b95 :: a96 :: a97 :: a98 :: a99 :: a100 :: a101 :: a102 :: a103 :: a104 :: a105 :: a106 :: a107 :: a108 :: a109 :: a110 :: a111 :: a112 :: a113 :: a114 :: a115 :: a116 :: a117 :: a118 :: a119 :: a120 :: a121 :: a122 :: []), []⟩ W.drew) : Code.wp Try.prog reg13 Q ⟨List.toArray (ptr g :: a1 :: a2 :: a3 :: a4 :: a5 :: a6 :: a7 :: a8 :: a9 :: a10 :: a11 :: a12 :: a13 :: a14 :: a15 :: a16 :: a17 :: a18 :: a19 :: a20 :: a21 :: a22 :: a23 :: a24 :: a25 :: a26 :: a27 :: a28 :: a29 :: a30 :: a31 :: a32 :: a33 :: a34 :: a35 :: a36 :: a37 :: a38 :: a39 :: a40 :: a41 :: a42 :: a43 :: a44 :: a45 :: a46 :: a47 :: a48 :: a49 :: a50 :: a51 :: a52 :: a53 :: a54 :: a55 :: a56 :: a57 :: a58 :: a59 :: a60 :: a61 :: a62 :: a63 :: a64 :: a65 :: a66 :: a67 :: a68 :: a69 :: a70 :: a71 :: a72 :: a73 :: a74 :: a75 :: a76 :: a77 :: a78 :: a79 :: a80 :: a81 :: a82 :: a83 :: a84 :: a85 :: a86 :: a87 :: a88 :: a89 :: a90 :: a91 :: a92 :: a93 :: a94 :: a95 :: a96 :: a97 :: a98 :: a99 :: a100 :: a101 :: a102 :: a103 :: a104 :: a105 :: a106 :: a107 :: a108 :: a109 :: a110 :: a111 :: a112 :: a113 :: a114 :: a115 :: a116 :: a117 :: a118 :: a119 :: a120 :: a121 :: a122 :: []), []⟩ W := by
 have P := Lib.hid (h.sm (Sm.drewn W))
 have i0 : (0 : Int) ≤ (st.i : Int) := by omega
 have i1 : (st.i : Int) < (T.length : Int) := by have := h.inb; omega
 have i2 : (st.i : Int) < 100000 := by have := h.inb; have := h.small; omega
 have hc : (T.length : Int) ≤ (c : Int) := by have := h.cap; omega
 have i3 : (0 : Int) ≤ (st.i : Int) + 1 := by omega
 have i4 : (st.i : Int) + 1 < (T.length : Int) := by omega
 have wk : IntKind.i64.wrap ((st.i : Int) + 1) = (st.i : Int) + 1 := by rw [IntKind.wrap_i64]; omega
 have tn : ((st.i : Int) + 1).toNat = st.i + 1 := by omega
 clear h
 refine wp_region_noPanic ?_
 refine wp_region_held_drew (S := fun W => PS W g tg c T st) (by kernel_rfl) P.out (fun hH0 => ?_)
 refine tkH 0 hH0 ?_
 refine tkH 1 hH0 ?_
 refine tkH 2 hH0 ?_
 refine tkH 3 hH0 ?_
 refine tkH 4 hH0 ?_
 refine tkH 5 hH0 ?_
 refine tkH 6 hH0 ?_
 refine tkH 7 hH0 ?_
 refine tkH 8 hH0 ?_
 refine tkH 9 hH0 ?_
 refine tkH 10 hH0 ?_
 refine tkH 11 hH0 ?_
 refine tkH 12 hH0 ?_
 refine tkH 13 hH0 ?_
 refine tkH 14 hH0 ?_
 refine tkH 15 hH0 ?_
 refine tkH 16 hH0 ?_
 refine tkH 17 hH0 ?_
 refine tkH 18 hH0 ?_
 refine tkH 19 hH0 ?_
 refine tkH 20 hH0 ?_
 refine tkH 21 hH0 ?_
 refine tkH 22 hH0 ?_
 refine tkH 23 hH0 ?_
 refine tkH 24 hH0 ?_
 refine tkH 25 hH0 ?_
 refine tkH 26 hH0 ?_
 refine tkH 27 hH0 ?_
 refine tkH 28 hH0 ?_
 refine tkH 29 hH0 ?_
 refine tkH 30 hH0 ?_
 refine tkH 31 hH0 ?_
 refine tkH 32 hH0 ?_
 refine tkH 33 hH0 ?_
 refine tkH 34 hH0 ?_
 refine tkH 35 hH0 ?_
 refine tkH 36 hH0 ?_
 refine tkH 37 hH0 ?_
 refine tkH 38 hH0 ?_
 refine tkH 39 hH0 ?_
 refine tkH 40 hH0 ?_
 refine tkH 41 hH0 ?_
 refine tkH 42 hH0 ?_
 refine wpAnyH_done (by kernel_rfl) ?_ _
 exact hQ _ _ _ _ _ _ _ _ _ _ _ _ _ _ _ _ _ _ _ _ _ _ _ _ _ _ _ _ _ _ _ _ _ _ _ _ _ _ _ _ _ _
/-- All of it. -/
theorem reg13_any (h : PS W g tg c T st) (hG : PrM.Good T) (b : Bool) (hb : b = decide ((PrM.tk T st).kind = 2 ∧ (PrM.tk T (up st)).kind = 5 ∧ (PrM.tk T (up st)).text = [61])) (a1 a2 a3 a4 a5 a6 a7 a8 a9 a10 a11 a12 a13 a14 a15 a16 a17 a18 a19 a20 a21 a22 a23 a24 a25 a26 a27 a28 a29 a30 a31 a32 a33 a34 a35 a36 a37 a38 a39 a40 a41 a42 a43 a44 a45 a46 a47 a48 a49 a50 a51 a52 a53 a54 a55 a56 a57 a58 a59 a60 a61 a62 a63 a64 a65 a66 a67 a68 a69 a70 a71 a72 a73 a74 a75 a76 a77 a78 a79 a80 a81 a82 a83 a84 a85 a86 a87 a88 a89 a90 a91 a92 a93 a94 a95 a96 a97 a98 a99 a100 a101 a102 a103 a104 a105 a106 a107 a108 a109 a110 a111 a112 a113 a114 a115 a116 a117 a118 a119 a120 a121 a122 : Value) (Q : Exit → Act → World → Prop) (hQ : ∀ (b54 b55 b56 b57 b58 b59 b60 b61 b62 b63 b64 b65 b66 b67 b68 b69 b70 b71 b72 b73 b74 b75 b76 b77 b78 b79 b80 b81 b82 b83 b84 b85 b86 b87 b88 b89 b90 b91 b92 b93 b94 b95 : Value), Q .normal ⟨List.toArray (ptr g :: a1 :: a2 :: a3 :: a4 :: a5 :: a6 :: a7 :: a8 :: a9 :: a10 :: a11 :: a12 :: a13 :: a14 :: a15 :: a16 :: a17 :: a18 :: a19 :: a20 :: a21 :: a22 :: a23 :: a24 :: a25 :: a26 :: a27 :: a28 :: a29 :: a30 :: a31 :: a32 :: a33 :: a34 :: a35 :: a36 :: a37 :: a38 :: a39 :: a40 :: a41 :: a42 :: a43 :: a44 :: a45 :: a46 :: a47 :: a48 :: a49 :: a50 :: a51 :: a52 :: .bool b :: b54 :: b55 :: b56 :: b57 :: b58 :: b59 :: b60 :: b61 :: b62 :: b63 :: b64 :: b65 :: b66 :: b67 :: b68 :: b69 :: b70 :: b71 :: b72 :: b73 :: b74 :: b75 :: b76 :: b77 :: b78 :: b79 :: b80 :: b81 :: b82 :: b83 :: b84 :: b85 :: b86 :: b87 :: b88 :: b89 :: b90 :: b91 :: b92 :: b93 :: b94 :: b95 :: a96 :: a97 :: a98 :: a99 :: a100 :: a101 :: a102 :: a103 :: a104 :: a105 :: a106 :: a107 :: a108 :: a109 :: a110 :: a111 :: a112 :: a113 :: a114 :: a115 :: a116 :: a117 :: a118 :: a119 :: a120 :: a121 :: a122 :: []), []⟩ W.drew) : Code.wp Try.prog reg13 Q ⟨List.toArray (ptr g :: a1 :: a2 :: a3 :: a4 :: a5 :: a6 :: a7 :: a8 :: a9 :: a10 :: a11 :: a12 :: a13 :: a14 :: a15 :: a16 :: a17 :: a18 :: a19 :: a20 :: a21 :: a22 :: a23 :: a24 :: a25 :: a26 :: a27 :: a28 :: a29 :: a30 :: a31 :: a32 :: a33 :: a34 :: a35 :: a36 :: a37 :: a38 :: a39 :: a40 :: a41 :: a42 :: a43 :: a44 :: a45 :: a46 :: a47 :: a48 :: a49 :: a50 :: a51 :: a52 :: a53 :: a54 :: a55 :: a56 :: a57 :: a58 :: a59 :: a60 :: a61 :: a62 :: a63 :: a64 :: a65 :: a66 :: a67 :: a68 :: a69 :: a70 :: a71 :: a72 :: a73 :: a74 :: a75 :: a76 :: a77 :: a78 :: a79 :: a80 :: a81 :: a82 :: a83 :: a84 :: a85 :: a86 :: a87 :: a88 :: a89 :: a90 :: a91 :: a92 :: a93 :: a94 :: a95 :: a96 :: a97 :: a98 :: a99 :: a100 :: a101 :: a102 :: a103 :: a104 :: a105 :: a106 :: a107 :: a108 :: a109 :: a110 :: a111 :: a112 :: a113 :: a114 :: a115 :: a116 :: a117 :: a118 :: a119 :: a120 :: a121 :: a122 :: []), []⟩ W := by
 by_cases k0 : (PrM.tk T st).kind = 2
 ·have hn : st.i + 1 < T.length := tk_kind h hG (by rw [k0]; decide)
  by_cases k1 : (PrM.tk T (up st)).kind = 5
  ·by_cases k2 : (PrM.tk T (up st)).text = [61]
   ·obtain rfl : b = true := by rw [hb]; exact decide_eq_true ⟨k0, k1, k2⟩
    exact reg13_d h (by simpa using k0) hn (by simpa using k1) (by simpa using k2) _ _ _ _ _ _ _ _ _ _ _ _ _ _ _ _ _ _ _ _ _ _ _ _ _ _ _ _ _ _ _ _ _ _ _ _ _ _ _ _ _ _ _ _ _ _ _ _ _ _ _ _ _ _ _ _ _ _ _ _ _ _ _ _ _ _ _ _ _ _ _ _ _ _ _ _ _ _ _ _ _ _ _ _ _ _ _ _ _ _ _ _ _ _ _ _ _ _ _ _ _ _ _ _ _ _ _ _ _ _ _ _ _ _ _ _ _ _ _ _ _ _ Q hQ
   ·obtain rfl : b = false := by rw [hb]; exact decide_eq_false (fun q => k2 q.2.2)
    exact reg13_c h (by simpa using k0) hn (by simpa using k1) (by simpa using k2) _ _ _ _ _ _ _ _ _ _ _ _ _ _ _ _ _ _ _ _ _ _ _ _ _ _ _ _ _ _ _ _ _ _ _ _ _ _ _ _ _ _ _ _ _ _ _ _ _ _ _ _ _ _ _ _ _ _ _ _ _ _ _ _ _ _ _ _ _ _ _ _ _ _ _ _ _ _ _ _ _ _ _ _ _ _ _ _ _ _ _ _ _ _ _ _ _ _ _ _ _ _ _ _ _ _ _ _ _ _ _ _ _ _ _ _ _ _ _ _ _ _ Q hQ
  ·obtain rfl : b = false := by rw [hb]; exact decide_eq_false (fun q => k1 q.2.1)
   exact reg13_b h (by simpa using k0) hn (by simpa using k1) _ _ _ _ _ _ _ _ _ _ _ _ _ _ _ _ _ _ _ _ _ _ _ _ _ _ _ _ _ _ _ _ _ _ _ _ _ _ _ _ _ _ _ _ _ _ _ _ _ _ _ _ _ _ _ _ _ _ _ _ _ _ _ _ _ _ _ _ _ _ _ _ _ _ _ _ _ _ _ _ _ _ _ _ _ _ _ _ _ _ _ _ _ _ _ _ _ _ _ _ _ _ _ _ _ _ _ _ _ _ _ _ _ _ _ _ _ _ _ _ _ _ Q hQ
 ·obtain rfl : b = false := by rw [hb]; exact decide_eq_false (fun q => k0 q.1)
  exact reg13_a h (by simpa using k0) _ _ _ _ _ _ _ _ _ _ _ _ _ _ _ _ _ _ _ _ _ _ _ _ _ _ _ _ _ _ _ _ _ _ _ _ _ _ _ _ _ _ _ _ _ _ _ _ _ _ _ _ _ _ _ _ _ _ _ _ _ _ _ _ _ _ _ _ _ _ _ _ _ _ _ _ _ _ _ _ _ _ _ _ _ _ _ _ _ _ _ _ _ _ _ _ _ _ _ _ _ _ _ _ _ _ _ _ _ _ _ _ _ _ _ _ _ _ _ _ _ _ Q hQ
end
end Go.Proofs.Yteakhlnnepjhpaa
