/- MeterRuns: the reference's In in parts: the couple, the regions that answer. Written by gen_mrin.py. -/
import Derived.Test.YtjkgeoipkcjobaaMrInA
namespace Go.Proofs.Ytjkgeoipkcjobaa
open Go.RowKit Go.Joins Go.Deep

theorem rr_cells {W : World} {b : Nat} {m : MS} {va vb : Value} (h : W.heap[b]? = some (.cells (rrow m va vb) 39 (0, 0))) :
    W.cell? ⟨b, 4, none⟩ = some (.bool m.cp) ∧ W.cell? ⟨b, 5, none⟩ = some (.bool m.aw) ∧ W.cell? ⟨b, 6, none⟩ = some (.bool m.sh) ∧ W.cell? ⟨b, 7, none⟩ = some (.int .i64 m.last) ∧ W.cell? ⟨b, 8, none⟩ = some va ∧ W.cell? ⟨b, 9, none⟩ = some vb ∧ W.cell? ⟨b, 10, none⟩ = some (.bool m.off) ∧ W.cell? ⟨b, 3, none⟩ = some (.int .i64 m.be) ∧ W.frozen? ⟨b, 7, none⟩ = false ∧ W.frozen? ⟨b, 8, none⟩ = false ∧ W.frozen? ⟨b, 9, none⟩ = false ∧ W.frozen? ⟨b, 10, none⟩ = false :=
  ⟨cell_of_row _ _ _ _ _ _ h, cell_of_row _ _ _ _ _ _ h, cell_of_row _ _ _ _ _ _ h, cell_of_row _ _ _ _ _ _ h, cell_of_row _ _ _ _ _ _ h, cell_of_row _ _ _ _ _ _ h, cell_of_row _ _ _ _ _ _ h, cell_of_row _ _ _ _ _ _ h, frozen_of_row _ _ _ _ _ h, frozen_of_row _ _ _ _ _ h, frozen_of_row _ _ _ _ _ h, frozen_of_row _ _ _ _ _ h⟩
set_option maxRecDepth 1000000 in
set_option maxHeartbeats 16000000 in
theorem ri_cpl {W : World} {mb B : Nat} {m : MS} {x o : Int} {px po : Addr} {nx cx no co : Nat} {va vb : Value} {a0 a1 a2 a3 a5 a6 a7 a8 a9 a10 a11 a12 a15 a16 a17 a18 a19 a20 a21 a22 a23 a24 a25 a26 a27 a28 a29 a30 a31 a32 a33 a34 a35 a36 a37 a38 a39 a40 a41 a42 a43 a44 a45 a46 a47 a48 a49 a50 a51 a52 a53 a54 a55 a56 a57 a58 a59 a60 a61 a62 a63 a64 a65 a66 a67 a68 a69 a70 a71 a72 a73 a74 a75 a76 a77 a78 a79 a80 a81 a82 a83 a84 a85 a86 a87 a88 a89 a90 a91 a92 a93 a94 a95 a96 a97 a98 a99 a100 a101 a102 a103 a104 a105 a106 a107 a108 a109 a110 a111 a112 a113 a114 a115 a116 a117 a118 a119 a120 a121 a122 a123 a124 a125 a126 a127 a128 a129 a130 a131 a132 : Value} {Q0 : Exit → Act → World → Prop}
    (hM : W.heap[mb]? = some (.cells (rrow m va vb) 39 (0, 0))) (hX : NumZ B W (.slice (some px) nx cx) x) (hO : NumZ B W (.slice (some po) no co) o) (hB : B ≤ W.heap.size) (g : m.Good) (lx : x < 604462909807314587353088) (lo : o < 604462909807314587353088)
    (hQ : ∀ (z16 z17 z73 z74 z75 z76 z77 z78 z79 z80 z81 z82 z83 z84 z85 z86 : Value) (v : Value) (W' : World), W'.heap[mb]? = some (.cells (rrow m va vb) 39 (0, 0)) → NumZ B W' v (if m.cp = true then fillP x o m.be else x) → Below W.heap.size W W' → Q0 .normal ⟨#[a0, a1, a2, a3, .pointer (some ⟨mb, 0, none⟩), a5, a6, a7, a8, a9, a10, a11, a12, .slice (some po) no co, v, a15, z16, z17, a18, a19, a20, a21, a22, a23, a24, a25, a26, a27, a28, a29, a30, a31, a32, a33, a34, a35, a36, a37, a38, a39, a40, a41, a42, a43, a44, a45, a46, a47, a48, a49, a50, a51, a52, a53, a54, a55, a56, a57, a58, a59, a60, a61, a62, a63, a64, a65, a66, a67, a68, a69, a70, a71, a72, z73, z74, z75, z76, z77, z78, z79, z80, z81, z82, z83, z84, z85, z86, a87, a88, a89, a90, a91, a92, a93, a94, a95, a96, a97, a98, a99, a100, a101, a102, a103, a104, a105, a106, a107, a108, a109, a110, a111, a112, a113, a114, a115, a116, a117, a118, a119, a120, a121, a122, a123, a124, a125, a126, a127, a128, a129, a130, a131, a132], []⟩ W') :
    Code.wp Try.prog (partOf 11 1) Q0 ⟨#[a0, a1, a2, a3, .pointer (some ⟨mb, 0, none⟩), a5, a6, a7, a8, a9, a10, a11, a12, .slice (some po) no co, .slice (some px) nx cx, a15, a16, a17, a18, a19, a20, a21, a22, a23, a24, a25, a26, a27, a28, a29, a30, a31, a32, a33, a34, a35, a36, a37, a38, a39, a40, a41, a42, a43, a44, a45, a46, a47, a48, a49, a50, a51, a52, a53, a54, a55, a56, a57, a58, a59, a60, a61, a62, a63, a64, a65, a66, a67, a68, a69, a70, a71, a72, a73, a74, a75, a76, a77, a78, a79, a80, a81, a82, a83, a84, a85, a86, a87, a88, a89, a90, a91, a92, a93, a94, a95, a96, a97, a98, a99, a100, a101, a102, a103, a104, a105, a106, a107, a108, a109, a110, a111, a112, a113, a114, a115, a116, a117, a118, a119, a120, a121, a122, a123, a124, a125, a126, a127, a128, a129, a130, a131, a132], []⟩ W := by
  replace hQ := Lib.hid hQ
  obtain ⟨c4, -, -, -, -, -, -, c3, -⟩ := rr_cells hM
  have HX := Lib.hid hX
  have HO := Lib.hid hO
  have HM := Lib.hid hM
  have HLX := Lib.hid (And.intro lx lo)
  have HBB := Lib.hid hB
  have g3 := g.be0
  have g4 := g.be1
  have HBE := Lib.hid (fun W => rbits_any m.be g3 (by omega) W)
  have HEP := Lib.hid (fillP_le x o m.be)
  clear hX hO hB g g3 g4 lx lo
  conv => arg 2; whnf
  rcases Bool.eq_false_or_eq_true m.cp with hc | hc
  · rw [hc] at c4
    have HC := Lib.hid hc
    clear hc hM
    go_wp2_with (first
      | (go_at_call 21; (with_reducible refine (HBE.out _).mono ?_); rintro e w1 ⟨v1, rfl, hn1, hb1⟩; have HN1 := Lib.hid (hn1.down HBB.out); have HX1 := Lib.hid (HX.out.below hb1); have HO1 := Lib.hid (HO.out.below hb1); have HM1 := Lib.hid ((hb1.block _ (lt_of_heap HM.out)).trans HM.out); have HB1 := Lib.hid hb1; clear hn1 hb1)
      | (go_at_call 23; (with_reducible refine (rfill_any HX1.out HO1.out HN1.out (Nat.le_trans HBB.out HB1.out.size) HLX.out.1 HLX.out.2).mono ?_); rintro e w2 ⟨v2, v3, rfl, hn2, hn3, hb2⟩; have HN2 := Lib.hid hn2; have HM2 := Lib.hid ((hb2.block _ (lt_of_heap HM1.out)).trans HM1.out); have HB2 := Lib.hid (bTr HB1.out hb2); clear hn2 hn3 hb2; try dsimp only))
    refine hQ.out _ _ _ _ _ _ _ _ _ _ _ _ _ _ _ _ _ _ HM2.out ?_ HB2.out
    rw [if_pos HC.out, ← HEP.out]
    exact HN2.out
  · rw [hc] at c4
    have HC := Lib.hid hc
    clear hc hM
    go_wp2_with fail
    refine hQ.out _ _ _ _ _ _ _ _ _ _ _ _ _ _ _ _ _ _ HM.out ?_ (bRef W)
    rw [if_neg (by rw [HC.out]; decide)]
    exact HX.out
set_option maxRecDepth 1000000 in
set_option maxHeartbeats 16000000 in
theorem ri_ret2 {W : World} {mb rb : Nat} {m : MS} {va vb : Value} {old : Array Value} {a0 a1 a2 a3 a5 a6 a7 a9 a10 a11 a12 a13 a14 a15 a16 a17 a18 a19 a20 a21 a22 a23 a24 a25 a26 a27 a28 a29 a30 a31 a32 a33 a34 a35 a36 a37 a38 a39 a40 a41 a42 a43 a44 a45 a46 a47 a48 a49 a50 a51 a52 a53 a54 a55 a56 a57 a58 a59 a60 a61 a62 a63 a64 a65 a66 a67 a68 a69 a70 a71 a72 a73 a74 a75 a76 a77 a78 a79 a80 a81 a82 a83 a84 a85 a86 a87 a88 a89 a90 a91 a92 a93 a94 a95 a96 a97 a98 a99 a100 a101 a102 a103 a104 a105 a106 a107 a108 a109 a110 a111 a112 a113 a114 a115 a116 a117 a118 a119 a120 a121 a122 a123 a124 a125 a126 a127 a128 a129 a130 a131 a132 : Value} {Q0 : Exit → Act → World → Prop}
    (hM : W.heap[mb]? = some (.cells (rrow m va vb) 39 (0, 0))) (hv : (rrow m va vb).all (·.oneCell') = true) (hR : W.heap[rb]? = some (.cells old 39 (0, 0))) (hs : old.size = 11)
    (hQ : ∀ (z25 : Value) (W' : World), W' = W.setRow rb (rrow m va vb) → Q0 .normal ⟨#[a0, a1, a2, a3, .pointer (some ⟨mb, 0, none⟩), a5, a6, a7, .pointer (some ⟨rb, 0, none⟩), .int .i64 2, .int .i64 1, a11, a12, a13, a14, a15, a16, a17, a18, a19, a20, a21, a22, a23, a24, z25, a26, a27, a28, a29, a30, a31, a32, a33, a34, a35, a36, a37, a38, a39, a40, a41, a42, a43, a44, a45, a46, a47, a48, a49, a50, a51, a52, a53, a54, a55, a56, a57, a58, a59, a60, a61, a62, a63, a64, a65, a66, a67, a68, a69, a70, a71, a72, a73, a74, a75, a76, a77, a78, a79, a80, a81, a82, a83, a84, a85, a86, a87, a88, a89, a90, a91, a92, a93, a94, a95, a96, a97, a98, a99, a100, a101, a102, a103, a104, a105, a106, a107, a108, a109, a110, a111, a112, a113, a114, a115, a116, a117, a118, a119, a120, a121, a122, a123, a124, a125, a126, a127, a128, a129, a130, a131, a132], []⟩ W') :
    Code.wp Try.prog (partOf 2 1) Q0 ⟨#[a0, a1, a2, a3, .pointer (some ⟨mb, 0, none⟩), a5, a6, a7, .pointer (some ⟨rb, 0, none⟩), a9, a10, a11, a12, a13, a14, a15, a16, a17, a18, a19, a20, a21, a22, a23, a24, a25, a26, a27, a28, a29, a30, a31, a32, a33, a34, a35, a36, a37, a38, a39, a40, a41, a42, a43, a44, a45, a46, a47, a48, a49, a50, a51, a52, a53, a54, a55, a56, a57, a58, a59, a60, a61, a62, a63, a64, a65, a66, a67, a68, a69, a70, a71, a72, a73, a74, a75, a76, a77, a78, a79, a80, a81, a82, a83, a84, a85, a86, a87, a88, a89, a90, a91, a92, a93, a94, a95, a96, a97, a98, a99, a100, a101, a102, a103, a104, a105, a106, a107, a108, a109, a110, a111, a112, a113, a114, a115, a116, a117, a118, a119, a120, a121, a122, a123, a124, a125, a126, a127, a128, a129, a130, a131, a132], []⟩ W := by
  replace hQ := Lib.hid hQ
  have HM := Lib.hid hM
  have HR := Lib.hid hR
  have HV := Lib.hid hv
  have HS := Lib.hid hs
  clear hM hR hv hs
  conv => arg 2; whnf
  go_wp2_with (first
    | ((with_reducible refine at_loadRM ?_); refine wpList_loadW rfl _ _ rfl mb 0 rfl (rrow m va vb) _ (range_whole HM.out) Try.underlying39 rfl (by kernel_rfl) ?_)
    | ((with_reducible refine at_storeRM ?_); refine wpList_store_row rfl _ _ _ rfl rb (rrow m va vb) rfl rfl _ _ HR.out (by kernel_rfl) (HS.out.trans rfl) HV.out ?_))
  exact hQ.out _ _ rfl
set_option maxRecDepth 1000000 in
set_option maxHeartbeats 16000000 in
theorem ri_ret4 {W : World} {mb rb : Nat} {m : MS} {va vb : Value} {old : Array Value} {a0 a1 a2 a3 a5 a6 a7 a9 a10 a11 a12 a13 a14 a15 a16 a17 a18 a19 a20 a21 a22 a23 a24 a25 a26 a27 a28 a29 a30 a31 a32 a33 a34 a35 a36 a37 a38 a39 a40 a41 a42 a43 a44 a45 a46 a47 a48 a49 a50 a51 a52 a53 a54 a55 a56 a57 a58 a59 a60 a61 a62 a63 a64 a65 a66 a67 a68 a69 a70 a71 a72 a73 a74 a75 a76 a77 a78 a79 a80 a81 a82 a83 a84 a85 a86 a87 a88 a89 a90 a91 a92 a93 a94 a95 a96 a97 a98 a99 a100 a101 a102 a103 a104 a105 a106 a107 a108 a109 a110 a111 a112 a113 a114 a115 a116 a117 a118 a119 a120 a121 a122 a123 a124 a125 a126 a127 a128 a129 a130 a131 a132 : Value} {Q0 : Exit → Act → World → Prop}
    (hM : W.heap[mb]? = some (.cells (rrow m va vb) 39 (0, 0))) (hv : (rrow m va vb).all (·.oneCell') = true) (hR : W.heap[rb]? = some (.cells old 39 (0, 0))) (hs : old.size = 11)
    (hQ : ∀ (z30 : Value) (W' : World), W' = W.setRow rb (rrow m va vb) → Q0 .normal ⟨#[a0, a1, a2, a3, .pointer (some ⟨mb, 0, none⟩), a5, a6, a7, .pointer (some ⟨rb, 0, none⟩), .int .i64 2, .int .i64 31, a11, a12, a13, a14, a15, a16, a17, a18, a19, a20, a21, a22, a23, a24, a25, a26, a27, a28, a29, z30, a31, a32, a33, a34, a35, a36, a37, a38, a39, a40, a41, a42, a43, a44, a45, a46, a47, a48, a49, a50, a51, a52, a53, a54, a55, a56, a57, a58, a59, a60, a61, a62, a63, a64, a65, a66, a67, a68, a69, a70, a71, a72, a73, a74, a75, a76, a77, a78, a79, a80, a81, a82, a83, a84, a85, a86, a87, a88, a89, a90, a91, a92, a93, a94, a95, a96, a97, a98, a99, a100, a101, a102, a103, a104, a105, a106, a107, a108, a109, a110, a111, a112, a113, a114, a115, a116, a117, a118, a119, a120, a121, a122, a123, a124, a125, a126, a127, a128, a129, a130, a131, a132], []⟩ W') :
    Code.wp Try.prog (partOf 4 1) Q0 ⟨#[a0, a1, a2, a3, .pointer (some ⟨mb, 0, none⟩), a5, a6, a7, .pointer (some ⟨rb, 0, none⟩), a9, a10, a11, a12, a13, a14, a15, a16, a17, a18, a19, a20, a21, a22, a23, a24, a25, a26, a27, a28, a29, a30, a31, a32, a33, a34, a35, a36, a37, a38, a39, a40, a41, a42, a43, a44, a45, a46, a47, a48, a49, a50, a51, a52, a53, a54, a55, a56, a57, a58, a59, a60, a61, a62, a63, a64, a65, a66, a67, a68, a69, a70, a71, a72, a73, a74, a75, a76, a77, a78, a79, a80, a81, a82, a83, a84, a85, a86, a87, a88, a89, a90, a91, a92, a93, a94, a95, a96, a97, a98, a99, a100, a101, a102, a103, a104, a105, a106, a107, a108, a109, a110, a111, a112, a113, a114, a115, a116, a117, a118, a119, a120, a121, a122, a123, a124, a125, a126, a127, a128, a129, a130, a131, a132], []⟩ W := by
  replace hQ := Lib.hid hQ
  have HM := Lib.hid hM
  have HR := Lib.hid hR
  have HV := Lib.hid hv
  have HS := Lib.hid hs
  clear hM hR hv hs
  conv => arg 2; whnf
  go_wp2_with (first
    | ((with_reducible refine at_loadRM ?_); refine wpList_loadW rfl _ _ rfl mb 0 rfl (rrow m va vb) _ (range_whole HM.out) Try.underlying39 rfl (by kernel_rfl) ?_)
    | ((with_reducible refine at_storeRM ?_); refine wpList_store_row rfl _ _ _ rfl rb (rrow m va vb) rfl rfl _ _ HR.out (by kernel_rfl) (HS.out.trans rfl) HV.out ?_))
  exact hQ.out _ _ rfl
set_option maxRecDepth 1000000 in
set_option maxHeartbeats 16000000 in
theorem ri_ret6 {W : World} {mb rb : Nat} {m : MS} {va vb : Value} {old : Array Value} {a0 a1 a2 a3 a5 a6 a7 a9 a10 a11 a12 a13 a14 a15 a16 a17 a18 a19 a20 a21 a22 a23 a24 a25 a26 a27 a28 a29 a30 a31 a32 a33 a34 a35 a36 a37 a38 a39 a40 a41 a42 a43 a44 a45 a46 a47 a48 a49 a50 a51 a52 a53 a54 a55 a56 a57 a58 a59 a60 a61 a62 a63 a64 a65 a66 a67 a68 a69 a70 a71 a72 a73 a74 a75 a76 a77 a78 a79 a80 a81 a82 a83 a84 a85 a86 a87 a88 a89 a90 a91 a92 a93 a94 a95 a96 a97 a98 a99 a100 a101 a102 a103 a104 a105 a106 a107 a108 a109 a110 a111 a112 a113 a114 a115 a116 a117 a118 a119 a120 a121 a122 a123 a124 a125 a126 a127 a128 a129 a130 a131 a132 : Value} {Q0 : Exit → Act → World → Prop}
    (hM : W.heap[mb]? = some (.cells (rrow m va vb) 39 (0, 0))) (hv : (rrow m va vb).all (·.oneCell') = true) (hR : W.heap[rb]? = some (.cells old 39 (0, 0))) (hs : old.size = 11)
    (hQ : ∀ (z33 : Value) (W' : World), W' = W.setRow rb (rrow m va vb) → Q0 .normal ⟨#[a0, a1, a2, a3, .pointer (some ⟨mb, 0, none⟩), a5, a6, a7, .pointer (some ⟨rb, 0, none⟩), .int .i64 2, .int .i64 1, a11, a12, a13, a14, a15, a16, a17, a18, a19, a20, a21, a22, a23, a24, a25, a26, a27, a28, a29, a30, a31, a32, z33, a34, a35, a36, a37, a38, a39, a40, a41, a42, a43, a44, a45, a46, a47, a48, a49, a50, a51, a52, a53, a54, a55, a56, a57, a58, a59, a60, a61, a62, a63, a64, a65, a66, a67, a68, a69, a70, a71, a72, a73, a74, a75, a76, a77, a78, a79, a80, a81, a82, a83, a84, a85, a86, a87, a88, a89, a90, a91, a92, a93, a94, a95, a96, a97, a98, a99, a100, a101, a102, a103, a104, a105, a106, a107, a108, a109, a110, a111, a112, a113, a114, a115, a116, a117, a118, a119, a120, a121, a122, a123, a124, a125, a126, a127, a128, a129, a130, a131, a132], []⟩ W') :
    Code.wp Try.prog (partOf 6 1) Q0 ⟨#[a0, a1, a2, a3, .pointer (some ⟨mb, 0, none⟩), a5, a6, a7, .pointer (some ⟨rb, 0, none⟩), a9, a10, a11, a12, a13, a14, a15, a16, a17, a18, a19, a20, a21, a22, a23, a24, a25, a26, a27, a28, a29, a30, a31, a32, a33, a34, a35, a36, a37, a38, a39, a40, a41, a42, a43, a44, a45, a46, a47, a48, a49, a50, a51, a52, a53, a54, a55, a56, a57, a58, a59, a60, a61, a62, a63, a64, a65, a66, a67, a68, a69, a70, a71, a72, a73, a74, a75, a76, a77, a78, a79, a80, a81, a82, a83, a84, a85, a86, a87, a88, a89, a90, a91, a92, a93, a94, a95, a96, a97, a98, a99, a100, a101, a102, a103, a104, a105, a106, a107, a108, a109, a110, a111, a112, a113, a114, a115, a116, a117, a118, a119, a120, a121, a122, a123, a124, a125, a126, a127, a128, a129, a130, a131, a132], []⟩ W := by
  replace hQ := Lib.hid hQ
  have HM := Lib.hid hM
  have HR := Lib.hid hR
  have HV := Lib.hid hv
  have HS := Lib.hid hs
  clear hM hR hv hs
  conv => arg 2; whnf
  go_wp2_with (first
    | ((with_reducible refine at_loadRM ?_); refine wpList_loadW rfl _ _ rfl mb 0 rfl (rrow m va vb) _ (range_whole HM.out) Try.underlying39 rfl (by kernel_rfl) ?_)
    | ((with_reducible refine at_storeRM ?_); refine wpList_store_row rfl _ _ _ rfl rb (rrow m va vb) rfl rfl _ _ HR.out (by kernel_rfl) (HS.out.trans rfl) HV.out ?_))
  exact hQ.out _ _ rfl
set_option maxRecDepth 1000000 in
set_option maxHeartbeats 16000000 in
theorem ri_ret18 {W : World} {mb rb : Nat} {m : MS} {va vb : Value} {old : Array Value} {a0 a1 a2 a3 a5 a6 a7 a9 a10 a11 a12 a13 a14 a15 a16 a17 a18 a19 a20 a21 a22 a23 a24 a25 a26 a27 a28 a29 a30 a31 a32 a33 a34 a35 a36 a37 a38 a39 a40 a41 a42 a43 a44 a45 a46 a47 a48 a49 a50 a51 a52 a53 a54 a55 a56 a57 a58 a59 a60 a61 a62 a63 a64 a65 a66 a67 a68 a69 a70 a71 a72 a73 a74 a75 a76 a77 a78 a79 a80 a81 a82 a83 a84 a85 a86 a87 a88 a89 a90 a91 a92 a93 a94 a95 a96 a97 a98 a99 a100 a101 a102 a103 a104 a105 a106 a107 a108 a109 a110 a111 a112 a113 a114 a115 a116 a117 a118 a119 a120 a121 a122 a123 a124 a125 a126 a127 a128 a129 a130 a131 a132 : Value} {Q0 : Exit → Act → World → Prop}
    (hM : W.heap[mb]? = some (.cells (rrow m va vb) 39 (0, 0))) (hv : (rrow m va vb).all (·.oneCell') = true) (hR : W.heap[rb]? = some (.cells old 39 (0, 0))) (hs : old.size = 11)
    (hQ : ∀ (z96 : Value) (W' : World), W' = W.setRow rb (rrow m va vb) → Q0 .normal ⟨#[a0, a1, a2, a3, .pointer (some ⟨mb, 0, none⟩), a5, a6, a7, .pointer (some ⟨rb, 0, none⟩), .int .i64 2, .int .i64 0, a11, a12, a13, a14, a15, a16, a17, a18, a19, a20, a21, a22, a23, a24, a25, a26, a27, a28, a29, a30, a31, a32, a33, a34, a35, a36, a37, a38, a39, a40, a41, a42, a43, a44, a45, a46, a47, a48, a49, a50, a51, a52, a53, a54, a55, a56, a57, a58, a59, a60, a61, a62, a63, a64, a65, a66, a67, a68, a69, a70, a71, a72, a73, a74, a75, a76, a77, a78, a79, a80, a81, a82, a83, a84, a85, a86, a87, a88, a89, a90, a91, a92, a93, a94, a95, z96, a97, a98, a99, a100, a101, a102, a103, a104, a105, a106, a107, a108, a109, a110, a111, a112, a113, a114, a115, a116, a117, a118, a119, a120, a121, a122, a123, a124, a125, a126, a127, a128, a129, a130, a131, a132], []⟩ W') :
    Code.wp Try.prog (partOf 18 1) Q0 ⟨#[a0, a1, a2, a3, .pointer (some ⟨mb, 0, none⟩), a5, a6, a7, .pointer (some ⟨rb, 0, none⟩), a9, a10, a11, a12, a13, a14, a15, a16, a17, a18, a19, a20, a21, a22, a23, a24, a25, a26, a27, a28, a29, a30, a31, a32, a33, a34, a35, a36, a37, a38, a39, a40, a41, a42, a43, a44, a45, a46, a47, a48, a49, a50, a51, a52, a53, a54, a55, a56, a57, a58, a59, a60, a61, a62, a63, a64, a65, a66, a67, a68, a69, a70, a71, a72, a73, a74, a75, a76, a77, a78, a79, a80, a81, a82, a83, a84, a85, a86, a87, a88, a89, a90, a91, a92, a93, a94, a95, a96, a97, a98, a99, a100, a101, a102, a103, a104, a105, a106, a107, a108, a109, a110, a111, a112, a113, a114, a115, a116, a117, a118, a119, a120, a121, a122, a123, a124, a125, a126, a127, a128, a129, a130, a131, a132], []⟩ W := by
  replace hQ := Lib.hid hQ
  have HM := Lib.hid hM
  have HR := Lib.hid hR
  have HV := Lib.hid hv
  have HS := Lib.hid hs
  clear hM hR hv hs
  conv => arg 2; whnf
  go_wp2_with (first
    | ((with_reducible refine at_loadRM ?_); refine wpList_loadW rfl _ _ rfl mb 0 rfl (rrow m va vb) _ (range_whole HM.out) Try.underlying39 rfl (by kernel_rfl) ?_)
    | ((with_reducible refine at_storeRM ?_); refine wpList_store_row rfl _ _ _ rfl rb (rrow m va vb) rfl rfl _ _ HR.out (by kernel_rfl) (HS.out.trans rfl) HV.out ?_))
  exact hQ.out _ _ rfl
set_option maxRecDepth 1000000 in
set_option maxHeartbeats 16000000 in
theorem ri_ret21 {W : World} {mb rb : Nat} {m : MS} {va vb : Value} {old : Array Value} {a0 a1 a2 a3 a5 a6 a7 a9 a10 a11 a12 a13 a14 a15 a16 a17 a18 a19 a20 a21 a22 a23 a24 a25 a26 a27 a28 a29 a30 a31 a32 a33 a34 a35 a36 a37 a38 a39 a40 a41 a42 a43 a44 a45 a46 a47 a48 a49 a50 a51 a52 a53 a54 a55 a56 a57 a58 a59 a60 a61 a62 a63 a64 a65 a66 a67 a68 a69 a70 a71 a72 a73 a74 a75 a76 a77 a78 a79 a80 a81 a82 a83 a84 a85 a86 a87 a88 a89 a90 a91 a92 a93 a94 a95 a96 a97 a98 a99 a100 a101 a102 a103 a104 a105 a106 a107 a108 a109 a110 a111 a112 a113 a114 a115 a116 a117 a118 a119 a120 a121 a122 a123 a124 a125 a126 a127 a128 a129 a130 a131 a132 : Value} {Q0 : Exit → Act → World → Prop}
    (hM : W.heap[mb]? = some (.cells (rrow m va vb) 39 (0, 0))) (hv : (rrow m va vb).all (·.oneCell') = true) (hR : W.heap[rb]? = some (.cells old 39 (0, 0))) (hs : old.size = 11)
    (hQ : ∀ (z116 : Value) (W' : World), W' = W.setRow rb (rrow m va vb) → Q0 .normal ⟨#[a0, a1, a2, a3, .pointer (some ⟨mb, 0, none⟩), a5, a6, a7, .pointer (some ⟨rb, 0, none⟩), .int .i64 0, .int .i64 0, a11, a12, a13, a14, a15, a16, a17, a18, a19, a20, a21, a22, a23, a24, a25, a26, a27, a28, a29, a30, a31, a32, a33, a34, a35, a36, a37, a38, a39, a40, a41, a42, a43, a44, a45, a46, a47, a48, a49, a50, a51, a52, a53, a54, a55, a56, a57, a58, a59, a60, a61, a62, a63, a64, a65, a66, a67, a68, a69, a70, a71, a72, a73, a74, a75, a76, a77, a78, a79, a80, a81, a82, a83, a84, a85, a86, a87, a88, a89, a90, a91, a92, a93, a94, a95, a96, a97, a98, a99, a100, a101, a102, a103, a104, a105, a106, a107, a108, a109, a110, a111, a112, a113, a114, a115, z116, a117, a118, a119, a120, a121, a122, a123, a124, a125, a126, a127, a128, a129, a130, a131, a132], []⟩ W') :
    Code.wp Try.prog (partOf 21 1) Q0 ⟨#[a0, a1, a2, a3, .pointer (some ⟨mb, 0, none⟩), a5, a6, a7, .pointer (some ⟨rb, 0, none⟩), a9, a10, a11, a12, a13, a14, a15, a16, a17, a18, a19, a20, a21, a22, a23, a24, a25, a26, a27, a28, a29, a30, a31, a32, a33, a34, a35, a36, a37, a38, a39, a40, a41, a42, a43, a44, a45, a46, a47, a48, a49, a50, a51, a52, a53, a54, a55, a56, a57, a58, a59, a60, a61, a62, a63, a64, a65, a66, a67, a68, a69, a70, a71, a72, a73, a74, a75, a76, a77, a78, a79, a80, a81, a82, a83, a84, a85, a86, a87, a88, a89, a90, a91, a92, a93, a94, a95, a96, a97, a98, a99, a100, a101, a102, a103, a104, a105, a106, a107, a108, a109, a110, a111, a112, a113, a114, a115, a116, a117, a118, a119, a120, a121, a122, a123, a124, a125, a126, a127, a128, a129, a130, a131, a132], []⟩ W := by
  replace hQ := Lib.hid hQ
  have HM := Lib.hid hM
  have HR := Lib.hid hR
  have HV := Lib.hid hv
  have HS := Lib.hid hs
  clear hM hR hv hs
  conv => arg 2; whnf
  go_wp2_with (first
    | ((with_reducible refine at_loadRM ?_); refine wpList_loadW rfl _ _ rfl mb 0 rfl (rrow m va vb) _ (range_whole HM.out) Try.underlying39 rfl (by kernel_rfl) ?_)
    | ((with_reducible refine at_storeRM ?_); refine wpList_store_row rfl _ _ _ rfl rb (rrow m va vb) rfl rfl _ _ HR.out (by kernel_rfl) (HS.out.trans rfl) HV.out ?_))
  exact hQ.out _ _ rfl
set_option maxRecDepth 1000000 in
set_option maxHeartbeats 16000000 in
theorem ri_ret24 {W : World} {mb rb : Nat} {m : MS} {va vb : Value} {old : Array Value} {a0 a1 a2 a3 a5 a6 a7 a9 a10 a11 a12 a13 a14 a15 a16 a17 a18 a19 a20 a21 a22 a23 a24 a25 a26 a27 a28 a29 a30 a31 a32 a33 a34 a35 a36 a37 a38 a39 a40 a41 a42 a43 a44 a45 a46 a47 a48 a49 a50 a51 a52 a53 a54 a55 a56 a57 a58 a59 a60 a61 a62 a63 a64 a65 a66 a67 a68 a69 a70 a71 a72 a73 a74 a75 a76 a77 a78 a79 a80 a81 a82 a83 a84 a85 a86 a87 a88 a89 a90 a91 a92 a93 a94 a95 a96 a97 a98 a99 a100 a101 a102 a103 a104 a105 a106 a107 a108 a109 a110 a111 a112 a113 a114 a115 a116 a117 a118 a119 a120 a121 a122 a123 a124 a125 a126 a127 a128 a129 a130 a131 a132 : Value} {Q0 : Exit → Act → World → Prop}
    (hM : W.heap[mb]? = some (.cells (rrow m va vb) 39 (0, 0))) (hv : (rrow m va vb).all (·.oneCell') = true) (hR : W.heap[rb]? = some (.cells old 39 (0, 0))) (hs : old.size = 11)
    (hQ : ∀ (z127 : Value) (W' : World), W' = W.setRow rb (rrow m va vb) → Q0 .normal ⟨#[a0, a1, a2, a3, .pointer (some ⟨mb, 0, none⟩), a5, a6, a7, .pointer (some ⟨rb, 0, none⟩), .int .i64 1, .int .i64 0, a11, a12, a13, a14, a15, a16, a17, a18, a19, a20, a21, a22, a23, a24, a25, a26, a27, a28, a29, a30, a31, a32, a33, a34, a35, a36, a37, a38, a39, a40, a41, a42, a43, a44, a45, a46, a47, a48, a49, a50, a51, a52, a53, a54, a55, a56, a57, a58, a59, a60, a61, a62, a63, a64, a65, a66, a67, a68, a69, a70, a71, a72, a73, a74, a75, a76, a77, a78, a79, a80, a81, a82, a83, a84, a85, a86, a87, a88, a89, a90, a91, a92, a93, a94, a95, a96, a97, a98, a99, a100, a101, a102, a103, a104, a105, a106, a107, a108, a109, a110, a111, a112, a113, a114, a115, a116, a117, a118, a119, a120, a121, a122, a123, a124, a125, a126, z127, a128, a129, a130, a131, a132], []⟩ W') :
    Code.wp Try.prog (partOf 24 1) Q0 ⟨#[a0, a1, a2, a3, .pointer (some ⟨mb, 0, none⟩), a5, a6, a7, .pointer (some ⟨rb, 0, none⟩), a9, a10, a11, a12, a13, a14, a15, a16, a17, a18, a19, a20, a21, a22, a23, a24, a25, a26, a27, a28, a29, a30, a31, a32, a33, a34, a35, a36, a37, a38, a39, a40, a41, a42, a43, a44, a45, a46, a47, a48, a49, a50, a51, a52, a53, a54, a55, a56, a57, a58, a59, a60, a61, a62, a63, a64, a65, a66, a67, a68, a69, a70, a71, a72, a73, a74, a75, a76, a77, a78, a79, a80, a81, a82, a83, a84, a85, a86, a87, a88, a89, a90, a91, a92, a93, a94, a95, a96, a97, a98, a99, a100, a101, a102, a103, a104, a105, a106, a107, a108, a109, a110, a111, a112, a113, a114, a115, a116, a117, a118, a119, a120, a121, a122, a123, a124, a125, a126, a127, a128, a129, a130, a131, a132], []⟩ W := by
  replace hQ := Lib.hid hQ
  have HM := Lib.hid hM
  have HR := Lib.hid hR
  have HV := Lib.hid hv
  have HS := Lib.hid hs
  clear hM hR hv hs
  conv => arg 2; whnf
  go_wp2_with (first
    | ((with_reducible refine at_loadRM ?_); refine wpList_loadW rfl _ _ rfl mb 0 rfl (rrow m va vb) _ (range_whole HM.out) Try.underlying39 rfl (by kernel_rfl) ?_)
    | ((with_reducible refine at_storeRM ?_); refine wpList_store_row rfl _ _ _ rfl rb (rrow m va vb) rfl rfl _ _ HR.out (by kernel_rfl) (HS.out.trans rfl) HV.out ?_))
  exact hQ.out _ _ rfl
set_option maxRecDepth 1000000 in
set_option maxHeartbeats 16000000 in
theorem ri_ret26 {W : World} {mb rb : Nat} {m : MS} {va vb : Value} {old : Array Value} {a0 a1 a2 a3 a5 a6 a7 a9 a10 a11 a12 a13 a14 a15 a16 a17 a18 a19 a20 a21 a22 a23 a24 a25 a26 a27 a28 a29 a30 a31 a32 a33 a34 a35 a36 a37 a38 a39 a40 a41 a42 a43 a44 a45 a46 a47 a48 a49 a50 a51 a52 a53 a54 a55 a56 a57 a58 a59 a60 a61 a62 a63 a64 a65 a66 a67 a68 a69 a70 a71 a72 a73 a74 a75 a76 a77 a78 a79 a80 a81 a82 a83 a84 a85 a86 a87 a88 a89 a90 a91 a92 a93 a94 a95 a96 a97 a98 a99 a100 a101 a102 a103 a104 a105 a106 a107 a108 a109 a110 a111 a112 a113 a114 a115 a116 a117 a118 a119 a120 a121 a122 a123 a124 a125 a126 a127 a128 a129 a130 a131 a132 : Value} {Q0 : Exit → Act → World → Prop}
    (hM : W.heap[mb]? = some (.cells (rrow m va vb) 39 (0, 0))) (hv : (rrow m va vb).all (·.oneCell') = true) (hR : W.heap[rb]? = some (.cells old 39 (0, 0))) (hs : old.size = 11)
    (hQ : ∀ (z132 : Value) (W' : World), W' = W.setRow rb (rrow m va vb) → Q0 .normal ⟨#[a0, a1, a2, a3, .pointer (some ⟨mb, 0, none⟩), a5, a6, a7, .pointer (some ⟨rb, 0, none⟩), .int .i64 2, .int .i64 0, a11, a12, a13, a14, a15, a16, a17, a18, a19, a20, a21, a22, a23, a24, a25, a26, a27, a28, a29, a30, a31, a32, a33, a34, a35, a36, a37, a38, a39, a40, a41, a42, a43, a44, a45, a46, a47, a48, a49, a50, a51, a52, a53, a54, a55, a56, a57, a58, a59, a60, a61, a62, a63, a64, a65, a66, a67, a68, a69, a70, a71, a72, a73, a74, a75, a76, a77, a78, a79, a80, a81, a82, a83, a84, a85, a86, a87, a88, a89, a90, a91, a92, a93, a94, a95, a96, a97, a98, a99, a100, a101, a102, a103, a104, a105, a106, a107, a108, a109, a110, a111, a112, a113, a114, a115, a116, a117, a118, a119, a120, a121, a122, a123, a124, a125, a126, a127, a128, a129, a130, a131, z132], []⟩ W') :
    Code.wp Try.prog (partOf 26 1) Q0 ⟨#[a0, a1, a2, a3, .pointer (some ⟨mb, 0, none⟩), a5, a6, a7, .pointer (some ⟨rb, 0, none⟩), a9, a10, a11, a12, a13, a14, a15, a16, a17, a18, a19, a20, a21, a22, a23, a24, a25, a26, a27, a28, a29, a30, a31, a32, a33, a34, a35, a36, a37, a38, a39, a40, a41, a42, a43, a44, a45, a46, a47, a48, a49, a50, a51, a52, a53, a54, a55, a56, a57, a58, a59, a60, a61, a62, a63, a64, a65, a66, a67, a68, a69, a70, a71, a72, a73, a74, a75, a76, a77, a78, a79, a80, a81, a82, a83, a84, a85, a86, a87, a88, a89, a90, a91, a92, a93, a94, a95, a96, a97, a98, a99, a100, a101, a102, a103, a104, a105, a106, a107, a108, a109, a110, a111, a112, a113, a114, a115, a116, a117, a118, a119, a120, a121, a122, a123, a124, a125, a126, a127, a128, a129, a130, a131, a132], []⟩ W := by
  replace hQ := Lib.hid hQ
  have HM := Lib.hid hM
  have HR := Lib.hid hR
  have HV := Lib.hid hv
  have HS := Lib.hid hs
  clear hM hR hv hs
  conv => arg 2; whnf
  go_wp2_with (first
    | ((with_reducible refine at_loadRM ?_); refine wpList_loadW rfl _ _ rfl mb 0 rfl (rrow m va vb) _ (range_whole HM.out) Try.underlying39 rfl (by kernel_rfl) ?_)
    | ((with_reducible refine at_storeRM ?_); refine wpList_store_row rfl _ _ _ rfl rb (rrow m va vb) rfl rfl _ _ HR.out (by kernel_rfl) (HS.out.trans rfl) HV.out ?_))
  exact hQ.out _ _ rfl

end Go.Proofs.Ytjkgeoipkcjobaa
