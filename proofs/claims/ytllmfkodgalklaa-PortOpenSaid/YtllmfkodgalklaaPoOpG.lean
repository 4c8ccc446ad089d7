/- PortOpen in parts: a round. Written by gen_poopen.py. -/
import Derived.Test.YtllmfkodgalklaaPoOpF
namespace Go.Proofs.Ytllmfkodgalklaa
open Go.RowKit Go.Joins Go.Deep

set_option maxRecDepth 1000000 in
set_option maxHeartbeats 16000000 in
theorem rn_step_a {w W : World} {k P hb : Nat} {b cy : Int} {sl : Value} {ts : List (Int × Int)} {F : Nat → Prop} {s : LS} {vs : Nat → Value} {ab ao nn cc i n2 c2 : Nat} {now kk cl id sz dd b2 cy2 : Int} {dr : Bool} {q2 : Option Addr} {a0 a1 a3 a4 a6 a9 a10 a11 a12 a13 a14 a15 a16 a17 a18 a19 a20 a21 a22 a23 a24 a25 a26 a27 a28 a29 a30 a31 a32 a33 a34 a35 a36 a37 a39 a41 a42 a43 a44 a45 a46 a47 a48 a49 a50 a51 a52 a53 a54 a55 a56 a57 a58 a59 a60 a61 a62 a63 a64 a65 a66 a67 a68 a69 a70 a71 a72 a73 a74 a75 a76 a77 a78 a79 a80 a81 a82 a83 a84 a85 a86 a87 a88 a89 a90 a91 a92 a93 a94 a95 a96 a97 a98 a99 a100 a101 a102 a103 a104 a105 a106 a107 a108 a109 a110 a111 a112 a113 a114 a115 a116 a117 a118 a119 a120 a121 a122 a123 a124 a125 a126 a127 a128 a129 a130 a131 a132 a133 a134 a135 a136 a137 a138 a139 a140 a141 a142 a143 a144 a145 a146 a147 a148 a149 a150 a151 a152 a153 a154 a155 a156 : Value} {Q0 : Exit → Act → World → Prop}
    (h : OpS w k P hb b cy sl ts F s (heads s) vs W) (hn0 : 0 ≤ now) (hn1 : now ≤ 4000000) (hi : i < nn) (hi2 : i < 100) (q0 : W.cell? ⟨ab, ao + i * 9, none⟩ = some (.int .i64 kk)) (q1 : W.cell? ⟨ab, ao + i * 9 + 1, none⟩ = some (.int .i64 cl)) (q2_ : W.cell? ⟨ab, ao + i * 9 + 2, none⟩ = some (.int .i64 id)) (q3 : W.cell? ⟨ab, ao + i * 9 + 3, none⟩ = some (.int .i64 sz)) (q4 : W.cell? ⟨ab, ao + i * 9 + 4, none⟩ = some (.bool dr)) (q5 : W.cell? ⟨ab, ao + i * 9 + 5, none⟩ = some (.int .i64 dd)) (q6 : W.cell? ⟨ab, ao + i * 9 + 6, none⟩ = some (.int .i64 b2)) (q7 : W.cell? ⟨ab, ao + i * 9 + 7, none⟩ = some (.int .i64 cy2)) (q8 : W.cell? ⟨ab, ao + i * 9 + 8, none⟩ = some (.slice q2 n2 c2)) (hk : bits .and .i64 kk 1 = 0)
    (hP : ∀ c (ax : Act) (kx : Option Nat) (vx : Value) (wx : World), Q0 (.panic c) (ax.put kx vx) wx → Q0 (.panic c) ax wx)
    (hQ : ∀ (z4 z10 z11 z12 z13 z14 z15 z16 z17 z42 z43 z44 z45 z46 z47 z48 z49 z50 z51 z52 z53 z54 z55 z56 z57 z58 z59 z60 z61 z62 z63 z64 z65 z66 z67 z68 z69 z70 z71 z72 z73 z74 z75 z76 z77 z78 z79 z80 z81 z82 z83 z84 z85 z86 z87 z88 z89 z90 z91 z92 z93 z94 z95 z96 z97 z98 z99 z100 z101 z102 z103 z104 z105 z106 z107 z108 z109 z110 z111 z112 z113 z114 z115 z116 z117 z118 z119 z120 z121 z122 z123 z124 z125 z126 z127 z128 z129 z130 z131 z132 z133 z134 z135 z136 z137 z138 z139 z140 z141 z142 z143 z144 z145 z146 z147 z148 z149 z150 z151 z152 z153 z154 z155 : Value) (now1 : Int) (s' : LS) (vs' : Nat → Value) (F' : Nat → Prop) (W' : World), now ≤ now1 → now1 ≤ now + 65535 → OpS w k P hb b cy sl ts F' s' (heads s') vs' W' → s'.r = s.r → Q0 .normal ⟨#[a0, a1, .pointer (some ⟨w.heap.size, 0, none⟩), a3, z4, .pointer (some ⟨k, 0, none⟩), a6, .pointer (some ⟨hb, 0, none⟩), .int .i64 now1, a9, z10, z11, z12, z13, z14, z15, z16, z17, a18, a19, a20, a21, a22, a23, a24, a25, a26, a27, a28, a29, a30, a31, a32, a33, a34, a35, a36, a37, .slice (some ⟨ab, ao, none⟩) nn cc, a39, .int .i64 (i : Int), a41, z42, z43, z44, z45, z46, z47, z48, z49, z50, z51, z52, z53, z54, z55, z56, z57, z58, z59, z60, z61, z62, z63, z64, z65, z66, z67, z68, z69, z70, z71, z72, z73, z74, z75, z76, z77, z78, z79, z80, z81, z82, z83, z84, z85, z86, z87, z88, z89, z90, z91, z92, z93, z94, z95, z96, z97, z98, z99, z100, z101, z102, z103, z104, z105, z106, z107, z108, z109, z110, z111, z112, z113, z114, z115, z116, z117, z118, z119, z120, z121, z122, z123, z124, z125, z126, z127, z128, z129, z130, z131, z132, z133, z134, z135, z136, z137, z138, z139, z140, z141, z142, z143, z144, z145, z146, z147, z148, z149, z150, z151, z152, z153, z154, z155, a156], []⟩ W') :
    Code.wp Try.prog (partOf 12 1) Q0 ⟨#[a0, a1, .pointer (some ⟨w.heap.size, 0, none⟩), a3, a4, .pointer (some ⟨k, 0, none⟩), a6, .pointer (some ⟨hb, 0, none⟩), .int .i64 now, a9, a10, a11, a12, a13, a14, a15, a16, a17, a18, a19, a20, a21, a22, a23, a24, a25, a26, a27, a28, a29, a30, a31, a32, a33, a34, a35, a36, a37, .slice (some ⟨ab, ao, none⟩) nn cc, a39, .int .i64 (i : Int), a41, a42, a43, a44, a45, a46, a47, a48, a49, a50, a51, a52, a53, a54, a55, a56, a57, a58, a59, a60, a61, a62, a63, a64, a65, a66, a67, a68, a69, a70, a71, a72, a73, a74, a75, a76, a77, a78, a79, a80, a81, a82, a83, a84, a85, a86, a87, a88, a89, a90, a91, a92, a93, a94, a95, a96, a97, a98, a99, a100, a101, a102, a103, a104, a105, a106, a107, a108, a109, a110, a111, a112, a113, a114, a115, a116, a117, a118, a119, a120, a121, a122, a123, a124, a125, a126, a127, a128, a129, a130, a131, a132, a133, a134, a135, a136, a137, a138, a139, a140, a141, a142, a143, a144, a145, a146, a147, a148, a149, a150, a151, a152, a153, a154, a155, a156], []⟩ W := by
  replace hQ := Lib.hid hQ
  have HO := Lib.hid (h.below (bAl (bRef W) (.cells #[.int .i64 kk, .int .i64 cl, .int .i64 id, .int .i64 sz, .bool dr, .int .i64 dd, .int .i64 b2, .int .i64 cy2, .slice q2 n2 c2] 48 (0, 0))))
  have HN := Lib.hid (show 0 ≤ now ∧ now ≤ 4000000 from ⟨hn0, hn1⟩)
  have HP := Lib.hid hP
  have hsb : (W.alloc (.cells #[.int .i64 kk, .int .i64 cl, .int .i64 id, .int .i64 sz, .bool dr, .int .i64 dd, .int .i64 b2, .int .i64 cy2, .slice q2 n2 c2] 48 (0, 0))).heap[W.heap.size]? = some (.cells #[.int .i64 kk, .int .i64 cl, .int .i64 id, .int .i64 sz, .bool dr, .int .i64 dd, .int .i64 b2, .int .i64 cy2, .slice q2 n2 c2] 48 (0, 0)) := heap_alloc_one W _
  have HSB := Lib.hid hsb
  have ei : IntKind.i64.wrap (i : Int) = (i : Int) := by rw [IntKind.wrap_i64]; omega
  have dn : decide ((i : Int) < (nn : Int)) = true := decide_eq_true (by omega)
  have HK := Lib.hid hk
  clear h hP hsb hn0 hn1 hk
  conv => arg 2; whnf
  go_step
  apply wp_seq_k
  intro KA hKA
  have HKA := Lib.hid hKA
  clear hKA
  go_wp2_with fail
  refine HKA.out _ _ ?_
  clear q0 q1 q2_ q3 q4 q5 q6 q7 q8 ei dn hi hi2
  have t0 : (W.alloc (.cells #[.int .i64 kk, .int .i64 cl, .int .i64 id, .int .i64 sz, .bool dr, .int .i64 dd, .int .i64 b2, .int .i64 cy2, .slice q2 n2 c2] 48 (0, 0))).cell? ⟨W.heap.size, 0, none⟩ = some (.int .i64 kk) := cell_of_row _ _ _ _ _ _ HSB.out
  have hkk := HK.out
  apply wp_seq_k
  intro KR hKR
  have HKR := Lib.hid hKR
  clear hKR
  go_upto_if 47 with (fail)
  refine wp_cond_true (by go_simp) ?_
  refine rn_even HO.out (fun o => (World.cell?_of_block (heap_alloc_old _ o (lt_of_heap HSB.out))).trans (cell_of_row _ _ _ _ _ _ HSB.out)) (cell_of_row _ _ _ _ _ _ HSB.out) (fun cx ax kx vx wx hx => HP.out cx ax kx vx wx hx) ?_
  intro z11 z12 z48 z49 z50 z51 z52 z53 z54 z55 z56 z57 z58 z59 z60 z61 z62 z63 z64 z65 z66 z67 z68 z69 z70 s' vs' F' W2 hO hr
  have HO2 := Lib.hid hO
  have HR2 := Lib.hid hr
  clear hO hr t0 hkk
  go_wp2_with fail
  exact hQ.out _ _ _ _ _ _ _ _ _ _ _ _ _ _ _ _ _ _ _ _ _ _ _ _ _ _ _ _ _ _ _ _ _ _ _ _ _ _ _ _ _ _ _ _ _ _ _ _ _ _ _ _ _ _ _ _ _ _ _ _ _ _ _ _ _ _ _ _ _ _ _ _ _ _ _ _ _ _ _ _ _ _ _ _ _ _ _ _ _ _ _ _ _ _ _ _ _ _ _ _ _ _ _ _ _ _ _ _ _ _ _ _ _ _ _ _ _ _ _ _ _ _ _ _ _ _ _ _ (Int.le_refl _) (by omega) HO2.out HR2.out

set_option maxRecDepth 1000000 in
set_option maxHeartbeats 16000000 in
theorem rn_step_b {w W : World} {k P hb : Nat} {b cy : Int} {sl : Value} {ts : List (Int × Int)} {F : Nat → Prop} {s : LS} {vs : Nat → Value} {ab ao nn cc i n2 c2 : Nat} {now kk cl id sz dd b2 cy2 : Int} {dr : Bool} {q2 : Option Addr} {a0 a1 a3 a4 a6 a9 a10 a11 a12 a13 a14 a15 a16 a17 a18 a19 a20 a21 a22 a23 a24 a25 a26 a27 a28 a29 a30 a31 a32 a33 a34 a35 a36 a37 a39 a41 a42 a43 a44 a45 a46 a47 a48 a49 a50 a51 a52 a53 a54 a55 a56 a57 a58 a59 a60 a61 a62 a63 a64 a65 a66 a67 a68 a69 a70 a71 a72 a73 a74 a75 a76 a77 a78 a79 a80 a81 a82 a83 a84 a85 a86 a87 a88 a89 a90 a91 a92 a93 a94 a95 a96 a97 a98 a99 a100 a101 a102 a103 a104 a105 a106 a107 a108 a109 a110 a111 a112 a113 a114 a115 a116 a117 a118 a119 a120 a121 a122 a123 a124 a125 a126 a127 a128 a129 a130 a131 a132 a133 a134 a135 a136 a137 a138 a139 a140 a141 a142 a143 a144 a145 a146 a147 a148 a149 a150 a151 a152 a153 a154 a155 a156 : Value} {Q0 : Exit → Act → World → Prop}
    (h : OpS w k P hb b cy sl ts F s (heads s) vs W) (hn0 : 0 ≤ now) (hn1 : now ≤ 4000000) (hi : i < nn) (hi2 : i < 100) (q0 : W.cell? ⟨ab, ao + i * 9, none⟩ = some (.int .i64 kk)) (q1 : W.cell? ⟨ab, ao + i * 9 + 1, none⟩ = some (.int .i64 cl)) (q2_ : W.cell? ⟨ab, ao + i * 9 + 2, none⟩ = some (.int .i64 id)) (q3 : W.cell? ⟨ab, ao + i * 9 + 3, none⟩ = some (.int .i64 sz)) (q4 : W.cell? ⟨ab, ao + i * 9 + 4, none⟩ = some (.bool dr)) (q5 : W.cell? ⟨ab, ao + i * 9 + 5, none⟩ = some (.int .i64 dd)) (q6 : W.cell? ⟨ab, ao + i * 9 + 6, none⟩ = some (.int .i64 b2)) (q7 : W.cell? ⟨ab, ao + i * 9 + 7, none⟩ = some (.int .i64 cy2)) (q8 : W.cell? ⟨ab, ao + i * 9 + 8, none⟩ = some (.slice q2 n2 c2)) (hk : bits .and .i64 kk 1 = 1)
    (hP : ∀ c (ax : Act) (kx : Option Nat) (vx : Value) (wx : World), Q0 (.panic c) (ax.put kx vx) wx → Q0 (.panic c) ax wx)
    (hQ : ∀ (z4 z10 z11 z12 z13 z14 z15 z16 z17 z42 z43 z44 z45 z46 z47 z48 z49 z50 z51 z52 z53 z54 z55 z56 z57 z58 z59 z60 z61 z62 z63 z64 z65 z66 z67 z68 z69 z70 z71 z72 z73 z74 z75 z76 z77 z78 z79 z80 z81 z82 z83 z84 z85 z86 z87 z88 z89 z90 z91 z92 z93 z94 z95 z96 z97 z98 z99 z100 z101 z102 z103 z104 z105 z106 z107 z108 z109 z110 z111 z112 z113 z114 z115 z116 z117 z118 z119 z120 z121 z122 z123 z124 z125 z126 z127 z128 z129 z130 z131 z132 z133 z134 z135 z136 z137 z138 z139 z140 z141 z142 z143 z144 z145 z146 z147 z148 z149 z150 z151 z152 z153 z154 z155 : Value) (now1 : Int) (s' : LS) (vs' : Nat → Value) (F' : Nat → Prop) (W' : World), now ≤ now1 → now1 ≤ now + 65535 → OpS w k P hb b cy sl ts F' s' (heads s') vs' W' → s'.r = s.r → Q0 .normal ⟨#[a0, a1, .pointer (some ⟨w.heap.size, 0, none⟩), a3, z4, .pointer (some ⟨k, 0, none⟩), a6, .pointer (some ⟨hb, 0, none⟩), .int .i64 now1, a9, z10, z11, z12, z13, z14, z15, z16, z17, a18, a19, a20, a21, a22, a23, a24, a25, a26, a27, a28, a29, a30, a31, a32, a33, a34, a35, a36, a37, .slice (some ⟨ab, ao, none⟩) nn cc, a39, .int .i64 (i : Int), a41, z42, z43, z44, z45, z46, z47, z48, z49, z50, z51, z52, z53, z54, z55, z56, z57, z58, z59, z60, z61, z62, z63, z64, z65, z66, z67, z68, z69, z70, z71, z72, z73, z74, z75, z76, z77, z78, z79, z80, z81, z82, z83, z84, z85, z86, z87, z88, z89, z90, z91, z92, z93, z94, z95, z96, z97, z98, z99, z100, z101, z102, z103, z104, z105, z106, z107, z108, z109, z110, z111, z112, z113, z114, z115, z116, z117, z118, z119, z120, z121, z122, z123, z124, z125, z126, z127, z128, z129, z130, z131, z132, z133, z134, z135, z136, z137, z138, z139, z140, z141, z142, z143, z144, z145, z146, z147, z148, z149, z150, z151, z152, z153, z154, z155, a156], []⟩ W') :
    Code.wp Try.prog (partOf 12 1) Q0 ⟨#[a0, a1, .pointer (some ⟨w.heap.size, 0, none⟩), a3, a4, .pointer (some ⟨k, 0, none⟩), a6, .pointer (some ⟨hb, 0, none⟩), .int .i64 now, a9, a10, a11, a12, a13, a14, a15, a16, a17, a18, a19, a20, a21, a22, a23, a24, a25, a26, a27, a28, a29, a30, a31, a32, a33, a34, a35, a36, a37, .slice (some ⟨ab, ao, none⟩) nn cc, a39, .int .i64 (i : Int), a41, a42, a43, a44, a45, a46, a47, a48, a49, a50, a51, a52, a53, a54, a55, a56, a57, a58, a59, a60, a61, a62, a63, a64, a65, a66, a67, a68, a69, a70, a71, a72, a73, a74, a75, a76, a77, a78, a79, a80, a81, a82, a83, a84, a85, a86, a87, a88, a89, a90, a91, a92, a93, a94, a95, a96, a97, a98, a99, a100, a101, a102, a103, a104, a105, a106, a107, a108, a109, a110, a111, a112, a113, a114, a115, a116, a117, a118, a119, a120, a121, a122, a123, a124, a125, a126, a127, a128, a129, a130, a131, a132, a133, a134, a135, a136, a137, a138, a139, a140, a141, a142, a143, a144, a145, a146, a147, a148, a149, a150, a151, a152, a153, a154, a155, a156], []⟩ W := by
  replace hQ := Lib.hid hQ
  have HO := Lib.hid (h.below (bAl (bRef W) (.cells #[.int .i64 kk, .int .i64 cl, .int .i64 id, .int .i64 sz, .bool dr, .int .i64 dd, .int .i64 b2, .int .i64 cy2, .slice q2 n2 c2] 48 (0, 0))))
  have HN := Lib.hid (show 0 ≤ now ∧ now ≤ 4000000 from ⟨hn0, hn1⟩)
  have HP := Lib.hid hP
  have hsb : (W.alloc (.cells #[.int .i64 kk, .int .i64 cl, .int .i64 id, .int .i64 sz, .bool dr, .int .i64 dd, .int .i64 b2, .int .i64 cy2, .slice q2 n2 c2] 48 (0, 0))).heap[W.heap.size]? = some (.cells #[.int .i64 kk, .int .i64 cl, .int .i64 id, .int .i64 sz, .bool dr, .int .i64 dd, .int .i64 b2, .int .i64 cy2, .slice q2 n2 c2] 48 (0, 0)) := heap_alloc_one W _
  have HSB := Lib.hid hsb
  have ei : IntKind.i64.wrap (i : Int) = (i : Int) := by rw [IntKind.wrap_i64]; omega
  have dn : decide ((i : Int) < (nn : Int)) = true := decide_eq_true (by omega)
  have HK := Lib.hid hk
  clear h hP hsb hn0 hn1 hk
  conv => arg 2; whnf
  go_step
  apply wp_seq_k
  intro KA hKA
  have HKA := Lib.hid hKA
  clear hKA
  go_wp2_with fail
  refine HKA.out _ _ ?_
  clear q0 q1 q2_ q3 q4 q5 q6 q7 q8 ei dn hi hi2
  have t0 : (W.alloc (.cells #[.int .i64 kk, .int .i64 cl, .int .i64 id, .int .i64 sz, .bool dr, .int .i64 dd, .int .i64 b2, .int .i64 cy2, .slice q2 n2 c2] 48 (0, 0))).cell? ⟨W.heap.size, 0, none⟩ = some (.int .i64 kk) := cell_of_row _ _ _ _ _ _ HSB.out
  have hkk := HK.out
  apply wp_seq_k
  intro KR hKR
  have HKR := Lib.hid hKR
  clear hKR
  go_upto_if 47 with (fail)
  refine wp_cond_false (by go_simp) ?_
  go_step
  refine HKR.out _ _ ?_
  refine rn_odd HO.out HN.out.1 HN.out.2 (cell_of_row _ _ _ _ _ _ HSB.out) ?_ (fun cx ax kx vx wx hx => HP.out cx ax kx vx wx hx) ?_
  · intro z4 z13 z14 z15 z16 z17 z71 z72 z73 z74 z75 z76 z77 z78 z79 z80 z81 z82 z83 z84 z85 z86 z87 z88 z89 z90 z91 z92 z93 z94 z95 z96 z97 z98 z99 z100 z101 z102 z103 z104 z105 z106 z107 z108 z109 z110 z111 z112 z113 z114 z115 z116 z117 z118 z119 z120 z121 z122 z123 z124 z125 z126 z127 z128 z129 z130 z131 z132 z133 z134 z135 z136 z137 z138 z139 z140 z141 z142 z143 z144 z145 z146 z147 z148 z149 z150 z151 z152 z153 z154 z155 now1 s' vs' F' W2 h1 h2 hO hr
    have HO2 := Lib.hid hO
    have HR2 := Lib.hid (And.intro h1 (And.intro h2 hr))
    clear hO hr h1 h2 t0 hkk
    go_wp2_with fail
    exact hQ.out _ _ _ _ _ _ _ _ _ _ _ _ _ _ _ _ _ _ _ _ _ _ _ _ _ _ _ _ _ _ _ _ _ _ _ _ _ _ _ _ _ _ _ _ _ _ _ _ _ _ _ _ _ _ _ _ _ _ _ _ _ _ _ _ _ _ _ _ _ _ _ _ _ _ _ _ _ _ _ _ _ _ _ _ _ _ _ _ _ _ _ _ _ _ _ _ _ _ _ _ _ _ _ _ _ _ _ _ _ _ _ _ _ _ _ _ _ _ _ _ _ _ _ _ _ _ _ _ HR2.out.1 HR2.out.2.1 HO2.out HR2.out.2.2
  · intro z4 z13 z14 z15 z16 z17 z71 z72 z73 z74 z75 z76 z77 z78 z79 z80 z81 z82 z83 z84 z85 z86 z87 z88 z89 z90 z91 z92 z93 z94 z95 z96 z97 z98 z99 z100 z101 z102 z103 z104 z105 z106 z107 z108 z109 z110 z111 z112 z113 z114 z115 z116 z117 z118 z119 z120 z121 z122 z123 z124 z125 z126 z127 z128 z129 z130 z131 z132 z133 z134 z135 z136 z137 z138 z139 z140 z141 z142 z143 z144 z145 z146 z147 z148 z149 z150 z151 z152 z153 z154 z155 now1 s' vs' F' W2 h1 h2 hO hr
    have HO2 := Lib.hid hO
    have HR2 := Lib.hid (And.intro h1 (And.intro h2 hr))
    clear hO hr h1 h2 t0 hkk
    go_wp2_with fail
    exact hQ.out _ _ _ _ _ _ _ _ _ _ _ _ _ _ _ _ _ _ _ _ _ _ _ _ _ _ _ _ _ _ _ _ _ _ _ _ _ _ _ _ _ _ _ _ _ _ _ _ _ _ _ _ _ _ _ _ _ _ _ _ _ _ _ _ _ _ _ _ _ _ _ _ _ _ _ _ _ _ _ _ _ _ _ _ _ _ _ _ _ _ _ _ _ _ _ _ _ _ _ _ _ _ _ _ _ _ _ _ _ _ _ _ _ _ _ _ _ _ _ _ _ _ _ _ _ _ _ _ HR2.out.1 HR2.out.2.1 HO2.out HR2.out.2.2

set_option maxRecDepth 1000000 in
set_option maxHeartbeats 16000000 in
theorem rn_step {w W : World} {k P hb : Nat} {b cy : Int} {sl : Value} {ts : List (Int × Int)} {F : Nat → Prop} {s : LS} {vs : Nat → Value} {ab ao nn cc i n2 c2 : Nat} {now kk cl id sz dd b2 cy2 : Int} {dr : Bool} {q2 : Option Addr} {a0 a1 a3 a4 a6 a9 a10 a11 a12 a13 a14 a15 a16 a17 a18 a19 a20 a21 a22 a23 a24 a25 a26 a27 a28 a29 a30 a31 a32 a33 a34 a35 a36 a37 a39 a41 a42 a43 a44 a45 a46 a47 a48 a49 a50 a51 a52 a53 a54 a55 a56 a57 a58 a59 a60 a61 a62 a63 a64 a65 a66 a67 a68 a69 a70 a71 a72 a73 a74 a75 a76 a77 a78 a79 a80 a81 a82 a83 a84 a85 a86 a87 a88 a89 a90 a91 a92 a93 a94 a95 a96 a97 a98 a99 a100 a101 a102 a103 a104 a105 a106 a107 a108 a109 a110 a111 a112 a113 a114 a115 a116 a117 a118 a119 a120 a121 a122 a123 a124 a125 a126 a127 a128 a129 a130 a131 a132 a133 a134 a135 a136 a137 a138 a139 a140 a141 a142 a143 a144 a145 a146 a147 a148 a149 a150 a151 a152 a153 a154 a155 a156 : Value} {Q0 : Exit → Act → World → Prop}
    (h : OpS w k P hb b cy sl ts F s (heads s) vs W) (hn0 : 0 ≤ now) (hn1 : now ≤ 4000000) (hi : i < nn) (hi2 : i < 100) (q0 : W.cell? ⟨ab, ao + i * 9, none⟩ = some (.int .i64 kk)) (q1 : W.cell? ⟨ab, ao + i * 9 + 1, none⟩ = some (.int .i64 cl)) (q2_ : W.cell? ⟨ab, ao + i * 9 + 2, none⟩ = some (.int .i64 id)) (q3 : W.cell? ⟨ab, ao + i * 9 + 3, none⟩ = some (.int .i64 sz)) (q4 : W.cell? ⟨ab, ao + i * 9 + 4, none⟩ = some (.bool dr)) (q5 : W.cell? ⟨ab, ao + i * 9 + 5, none⟩ = some (.int .i64 dd)) (q6 : W.cell? ⟨ab, ao + i * 9 + 6, none⟩ = some (.int .i64 b2)) (q7 : W.cell? ⟨ab, ao + i * 9 + 7, none⟩ = some (.int .i64 cy2)) (q8 : W.cell? ⟨ab, ao + i * 9 + 8, none⟩ = some (.slice q2 n2 c2))
    (hP : ∀ c (ax : Act) (kx : Option Nat) (vx : Value) (wx : World), Q0 (.panic c) (ax.put kx vx) wx → Q0 (.panic c) ax wx)
    (hQ : ∀ (z4 z10 z11 z12 z13 z14 z15 z16 z17 z42 z43 z44 z45 z46 z47 z48 z49 z50 z51 z52 z53 z54 z55 z56 z57 z58 z59 z60 z61 z62 z63 z64 z65 z66 z67 z68 z69 z70 z71 z72 z73 z74 z75 z76 z77 z78 z79 z80 z81 z82 z83 z84 z85 z86 z87 z88 z89 z90 z91 z92 z93 z94 z95 z96 z97 z98 z99 z100 z101 z102 z103 z104 z105 z106 z107 z108 z109 z110 z111 z112 z113 z114 z115 z116 z117 z118 z119 z120 z121 z122 z123 z124 z125 z126 z127 z128 z129 z130 z131 z132 z133 z134 z135 z136 z137 z138 z139 z140 z141 z142 z143 z144 z145 z146 z147 z148 z149 z150 z151 z152 z153 z154 z155 : Value) (now1 : Int) (s' : LS) (vs' : Nat → Value) (F' : Nat → Prop) (W' : World), now ≤ now1 → now1 ≤ now + 65535 → OpS w k P hb b cy sl ts F' s' (heads s') vs' W' → s'.r = s.r → Q0 .normal ⟨#[a0, a1, .pointer (some ⟨w.heap.size, 0, none⟩), a3, z4, .pointer (some ⟨k, 0, none⟩), a6, .pointer (some ⟨hb, 0, none⟩), .int .i64 now1, a9, z10, z11, z12, z13, z14, z15, z16, z17, a18, a19, a20, a21, a22, a23, a24, a25, a26, a27, a28, a29, a30, a31, a32, a33, a34, a35, a36, a37, .slice (some ⟨ab, ao, none⟩) nn cc, a39, .int .i64 (i : Int), a41, z42, z43, z44, z45, z46, z47, z48, z49, z50, z51, z52, z53, z54, z55, z56, z57, z58, z59, z60, z61, z62, z63, z64, z65, z66, z67, z68, z69, z70, z71, z72, z73, z74, z75, z76, z77, z78, z79, z80, z81, z82, z83, z84, z85, z86, z87, z88, z89, z90, z91, z92, z93, z94, z95, z96, z97, z98, z99, z100, z101, z102, z103, z104, z105, z106, z107, z108, z109, z110, z111, z112, z113, z114, z115, z116, z117, z118, z119, z120, z121, z122, z123, z124, z125, z126, z127, z128, z129, z130, z131, z132, z133, z134, z135, z136, z137, z138, z139, z140, z141, z142, z143, z144, z145, z146, z147, z148, z149, z150, z151, z152, z153, z154, z155, a156], []⟩ W') :
    Code.wp Try.prog (partOf 12 1) Q0 ⟨#[a0, a1, .pointer (some ⟨w.heap.size, 0, none⟩), a3, a4, .pointer (some ⟨k, 0, none⟩), a6, .pointer (some ⟨hb, 0, none⟩), .int .i64 now, a9, a10, a11, a12, a13, a14, a15, a16, a17, a18, a19, a20, a21, a22, a23, a24, a25, a26, a27, a28, a29, a30, a31, a32, a33, a34, a35, a36, a37, .slice (some ⟨ab, ao, none⟩) nn cc, a39, .int .i64 (i : Int), a41, a42, a43, a44, a45, a46, a47, a48, a49, a50, a51, a52, a53, a54, a55, a56, a57, a58, a59, a60, a61, a62, a63, a64, a65, a66, a67, a68, a69, a70, a71, a72, a73, a74, a75, a76, a77, a78, a79, a80, a81, a82, a83, a84, a85, a86, a87, a88, a89, a90, a91, a92, a93, a94, a95, a96, a97, a98, a99, a100, a101, a102, a103, a104, a105, a106, a107, a108, a109, a110, a111, a112, a113, a114, a115, a116, a117, a118, a119, a120, a121, a122, a123, a124, a125, a126, a127, a128, a129, a130, a131, a132, a133, a134, a135, a136, a137, a138, a139, a140, a141, a142, a143, a144, a145, a146, a147, a148, a149, a150, a151, a152, a153, a154, a155, a156], []⟩ W := by
  replace hQ := Lib.hid hQ
  replace hQ := hQ.out
  have e := low1 kk
  rcases (show kk % 2 = 0 ∨ kk % 2 = 1 by omega) with g | g
  · rw [g] at e
    exact rn_step_a h hn0 hn1 hi hi2 q0 q1 q2_ q3 q4 q5 q6 q7 q8 e hP hQ
  · rw [g] at e
    exact rn_step_b h hn0 hn1 hi hi2 q0 q1 q2_ q3 q4 q5 q6 q7 q8 e hP hQ

end Go.Proofs.Ytllmfkodgalklaa
