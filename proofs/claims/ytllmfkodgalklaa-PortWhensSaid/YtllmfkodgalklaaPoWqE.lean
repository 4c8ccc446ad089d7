/- PortWhens in parts: a round. Written by gen_powhens.py. -/
import Derived.Test.YtllmfkodgalklaaPoWqD
namespace Go.Proofs.Ytllmfkodgalklaa
open Go.RowKit Go.Joins Go.Deep

set_option maxRecDepth 1000000 in
set_option maxHeartbeats 16000000 in
theorem rn_look_a {w W : World} {k P : Nat} {b cy : Int} {sl : Value} {ts : List (Int × Int)} {F : Nat → Prop} {s : LS} {now : Int} {p kk : Nat} {d : Nat} {i0 i1 : Int} {i2 : Bool} {R : List It}  {a0 a1 a3 a4 a6 a7 a8 a9 a10 a13 a14 a15 a16 a17 a18 a19 a20 a21 a22 a23 a24 a25 a26 a27 a28 a29 a30 a31 a32 a33 a34 a35 a36 a37 a38 a39 a40 a41 a42 a43 a44 a45 a46 a47 a48 a49 a50 a51 a52 a53 a54 a55 a56 a57 a58 a59 a60 a61 a62 a63 a64 a65 a66 a67 a68 a69 a70 a71 a72 a73 a74 a75 a76 a77 a78 a79 a80 a81 a82 a83 a84 a85 a86 a87 a88 a89 a90 a91 a92 a93 a94 a95 a96 a97 a98 a99 a100 a101 a102 a103 a104 a105 a106 a107 a108 a109 a110 a111 a112 a113 a114 a115 a116 a117 a118 a119 a120 a121 a122 a123 a124 a125 a126 a127 a128 a129 a130 a131 a132 a133 a134 a135 a136 a137 a138 a139 a140 a141 a142 a143 a144 a145 a146 a147 a148 a149 a150 a151 a152 a153 a154 a155 a156 a157 a158 a159 a160 a161 a162 a163 a164 a165 a166 a167 a168 a169 a170 a171 a172 a173 a174 a175 a176 a177 a178 a179 a180 a181 a182 a183 a184 a185 a186 a187 a188 a189 a190 a191 a192 a193 a194 a195 a196 a197 a198 a199 a200 a201 a202 : Value} {Q0 : Exit → Act → World → Prop}
    (h : WpS w k P b cy sl ts F s W) (hf : Far b cy ts s now kk p) (hk : kk < 8000) (hp : p < 100) (hz : chkV b cy ts = 0) (hc : cy ≤ 16777216) (hw : whenV (PL.new b cy ts) s now = (now, true)) (hd8 : d < 8) (hq : s.q d = (i0, i1, i2) :: R) (hx : 8 * i1 ≤ leftOf (PL.new b cy ts) now d) (hmx : ∀ e, d < e → e < 8 → ¬ fits s (leftOf (PL.new b cy ts) now) e)
    (hP : ∀ c (ax : Act) (kx : Option Nat) (vx : Value) (wx : World), Q0 (.panic c) (ax.put kx vx) wx → Q0 (.panic c) ax wx)
    (hQ : ∀ (z4 z14 z15 z16 z17 z18 z19 z20 z21 z105 z106 z107 z108 z109 z110 z111 z112 z113 z114 z115 z116 z117 z118 z119 z120 z121 z122 z123 z124 z125 z126 z127 z128 z129 z130 z131 z132 z133 z134 z135 z136 z137 z138 z139 z140 z141 z142 z143 z144 z145 z146 z147 z148 z149 z150 z151 z152 z153 z154 : Value) (now' : Int) (p' : Nat) (s' : LS) (F' : Nat → Prop) (W' : World), WpS w k P b cy sl ts F' s' W' → Far b cy ts s' now' (kk + 1) p' → p' + s'.tot 8 = p + s.tot 8 → Q0 .normal ⟨#[a0, a1, .pointer (some ⟨w.heap.size, 0, none⟩), a3, z4, .pointer (some ⟨k, 0, none⟩), a6, a7, a8, a9, a10, .int .i64 now', .int .i64 (p' : Int), a13, z14, z15, z16, z17, z18, z19, z20, z21, a22, a23, a24, a25, a26, a27, a28, a29, a30, a31, a32, a33, a34, a35, a36, a37, a38, a39, a40, a41, a42, a43, a44, a45, a46, a47, a48, a49, a50, a51, a52, a53, a54, a55, a56, a57, a58, a59, a60, a61, a62, a63, a64, a65, a66, a67, a68, a69, a70, a71, a72, a73, a74, a75, a76, a77, a78, a79, a80, a81, a82, a83, a84, a85, a86, a87, a88, a89, a90, a91, a92, a93, a94, a95, a96, a97, a98, a99, a100, a101, a102, a103, a104, z105, z106, z107, z108, z109, z110, z111, z112, z113, z114, z115, z116, z117, z118, z119, z120, z121, z122, z123, z124, z125, z126, z127, z128, z129, z130, z131, z132, z133, z134, z135, z136, z137, z138, z139, z140, z141, z142, z143, z144, z145, z146, z147, z148, z149, z150, z151, z152, z153, z154, a155, a156, a157, a158, a159, a160, a161, a162, a163, a164, a165, a166, a167, a168, a169, a170, a171, a172, a173, a174, a175, a176, a177, a178, a179, a180, a181, a182, a183, a184, a185, a186, a187, a188, a189, a190, a191, a192, a193, a194, a195, a196, a197, a198, a199, a200, a201, a202], []⟩ W') :
    Code.wp Try.prog (partOf 23 1) Q0 ⟨#[a0, a1, .pointer (some ⟨w.heap.size, 0, none⟩), a3, a4, .pointer (some ⟨k, 0, none⟩), a6, a7, a8, a9, a10, .int .i64 now, .int .i64 (p : Int), a13, a14, a15, a16, a17, a18, a19, a20, a21, a22, a23, a24, a25, a26, a27, a28, a29, a30, a31, a32, a33, a34, a35, a36, a37, a38, a39, a40, a41, a42, a43, a44, a45, a46, a47, a48, a49, a50, a51, a52, a53, a54, a55, a56, a57, a58, a59, a60, a61, a62, a63, a64, a65, a66, a67, a68, a69, a70, a71, a72, a73, a74, a75, a76, a77, a78, a79, a80, a81, a82, a83, a84, a85, a86, a87, a88, a89, a90, a91, a92, a93, a94, a95, a96, a97, a98, a99, a100, a101, a102, a103, a104, a105, a106, a107, a108, a109, a110, a111, a112, a113, a114, a115, a116, a117, a118, a119, a120, a121, a122, a123, a124, a125, a126, a127, a128, a129, a130, a131, a132, a133, a134, a135, a136, a137, a138, a139, a140, a141, a142, a143, a144, a145, a146, a147, a148, a149, a150, a151, a152, a153, a154, a155, a156, a157, a158, a159, a160, a161, a162, a163, a164, a165, a166, a167, a168, a169, a170, a171, a172, a173, a174, a175, a176, a177, a178, a179, a180, a181, a182, a183, a184, a185, a186, a187, a188, a189, a190, a191, a192, a193, a194, a195, a196, a197, a198, a199, a200, a201, a202], []⟩ W := by
  replace hQ := Lib.hid hQ
  have hn0 := hf.n0
  have hn1 := hf.n1
  have hd0 := h.when (x := now) ⟨hn0, by omega⟩
  rw [hw] at hd0
  have HD := Lib.hid hd0
  have HP := Lib.hid hP
  have HFA := Lib.hid hf
  have HGD := Lib.hid h.po.gd
  have HN := Lib.hid (show 0 ≤ now ∧ now ≤ 290000000000 from ⟨hn0, by omega⟩)
  have HPP := Lib.hid hp
  have HZ := Lib.hid hz
  have HQD := Lib.hid hq
  have HXX := Lib.hid (And.intro hd8 (And.intro hx hmx))
  clear h hf hk hp hz hc hd0 hw hP hn0 hn1 hq hx hmx hd8
  conv => arg 2; whnf
  go_step
  apply wp_seq_k
  intro KA hKA
  have HKA := Lib.hid hKA
  clear hKA
  go_wp2_with (go_at_call 12; (with_reducible refine HD.out.mono ?_); rintro e W1 ⟨rfl, F1, hO1⟩; have HO1 := Lib.hid hO1; clear hO1; try dsimp only)
  refine HKA.out _ _ ?_
  apply wp_seq_k
  intro KB hKB
  have HKB := Lib.hid hKB
  clear hKB
  go_upto_if 112 with (fail)
  refine wp_cond_false (by go_simp) ?_
  go_step
  refine HKB.out _ _ ?_
  apply wp_seq_k
  intro KC hKC
  have HKC := Lib.hid hKC
  clear hKC
  go_upto_if 115 with (fail)
  refine wp_cond_false (by go_simp) ?_
  go_step
  refine HKC.out _ _ ?_
  apply wp_seq_k
  intro KE hKE
  have HKE := Lib.hid hKE
  clear hKE
  refine rn_early_b HO1.out HN.out.1 (by have := HN.out; omega) (by omega) (Int.le_refl _) ?_
  intro z4 z16 z17 z18 z116 z117 z118 z119 z120 z121 z122 z123 z124 z125 z126 z127 z128 F2 W2 hO2
  have HO2 := Lib.hid hO2
  clear hO2
  refine HKE.out _ _ ?_
  have hzz := HGD.out.sz _ HXX.out.1 _ (by rw [HQD.out]; exact List.mem_cons_self ..)
  have hz0 : 0 ≤ i1 := hzz.1
  have hz1 : i1 ≤ 1600 := hzz.2
  refine rn_out_b HO2.out (by have := HN.out; omega) (by have := HN.out; omega) HPP.out HXX.out.1 HQD.out HXX.out.2.1 HXX.out.2.2 (fun cx ax kx vx wx hx => HP.out cx ax kx vx wx hx) ?_
  intro z4 z19 z20 z21 z129 z130 z131 z132 z133 z134 z135 z136 z137 z138 z139 z140 z141 z142 z143 z144 z145 z146 z147 z148 z149 z150 z151 z152 z153 z154 F3 W3 hO3
  have ht := wtot_pop s HXX.out.1 HQD.out
  exact hQ.out _ _ _ _ _ _ _ _ _ _ _ _ _ _ _ _ _ _ _ _ _ _ _ _ _ _ _ _ _ _ _ _ _ _ _ _ _ _ _ _ _ _ _ _ _ _ _ _ _ _ _ _ _ _ _ _ _ _ _ _ _ _ _ _ hO3 (HFA.out.pick HZ.out (by have := HN.out; omega) HXX.out.1 ⟨_, _, HQD.out, HXX.out.2.1⟩ (by omega) (by omega)) (by omega)

set_option maxRecDepth 1000000 in
set_option maxHeartbeats 16000000 in
theorem rn_look_b {w W : World} {k P : Nat} {b cy : Int} {sl : Value} {ts : List (Int × Int)} {F : Nat → Prop} {s : LS} {now : Int} {p kk : Nat} {a0 a1 a3 a4 a6 a7 a8 a9 a10 a13 a14 a15 a16 a17 a18 a19 a20 a21 a22 a23 a24 a25 a26 a27 a28 a29 a30 a31 a32 a33 a34 a35 a36 a37 a38 a39 a40 a41 a42 a43 a44 a45 a46 a47 a48 a49 a50 a51 a52 a53 a54 a55 a56 a57 a58 a59 a60 a61 a62 a63 a64 a65 a66 a67 a68 a69 a70 a71 a72 a73 a74 a75 a76 a77 a78 a79 a80 a81 a82 a83 a84 a85 a86 a87 a88 a89 a90 a91 a92 a93 a94 a95 a96 a97 a98 a99 a100 a101 a102 a103 a104 a105 a106 a107 a108 a109 a110 a111 a112 a113 a114 a115 a116 a117 a118 a119 a120 a121 a122 a123 a124 a125 a126 a127 a128 a129 a130 a131 a132 a133 a134 a135 a136 a137 a138 a139 a140 a141 a142 a143 a144 a145 a146 a147 a148 a149 a150 a151 a152 a153 a154 a155 a156 a157 a158 a159 a160 a161 a162 a163 a164 a165 a166 a167 a168 a169 a170 a171 a172 a173 a174 a175 a176 a177 a178 a179 a180 a181 a182 a183 a184 a185 a186 a187 a188 a189 a190 a191 a192 a193 a194 a195 a196 a197 a198 a199 a200 a201 a202 : Value} {Q0 : Exit → Act → World → Prop}
    (h : WpS w k P b cy sl ts F s W) (hf : Far b cy ts s now kk p) (hk : kk < 8000) (hp : p < 100) (hz : chkV b cy ts = 0) (hc : cy ≤ 16777216) (hw : whenV (PL.new b cy ts) s now = (0, false)) (hnv : (∀ t, now ≤ t → t ≤ 1099511627775 → ∀ y, y < 8 → ¬ fits s (leftOf (PL.new b cy ts) t) y))
    (hX : ∀ (z4 z14 z15 z16 z17 z18 z19 z20 z21 z105 z106 z107 z108 z109 z110 z111 z112 z113 z114 z115 z116 z117 z118 z119 z120 z121 z122 z123 z124 z125 z126 z127 z128 z129 z130 z131 z132 z133 z134 z135 z136 z137 z138 z139 z140 z141 z142 z143 z144 z145 z146 z147 z148 z149 z150 z151 z152 z153 z154 : Value) (F' : Nat → Prop) (W' : World), WpS w k P b cy sl ts F' s W' → (∀ t, now ≤ t → t ≤ 1099511627775 → ∀ y, y < 8 → ¬ fits s (leftOf (PL.new b cy ts) t) y) → Q0 (.exit 2) ⟨#[a0, a1, .pointer (some ⟨w.heap.size, 0, none⟩), a3, z4, .pointer (some ⟨k, 0, none⟩), a6, a7, a8, a9, a10, .int .i64 now, .int .i64 (p : Int), a13, z14, z15, z16, z17, z18, z19, z20, z21, a22, a23, a24, a25, a26, a27, a28, a29, a30, a31, a32, a33, a34, a35, a36, a37, a38, a39, a40, a41, a42, a43, a44, a45, a46, a47, a48, a49, a50, a51, a52, a53, a54, a55, a56, a57, a58, a59, a60, a61, a62, a63, a64, a65, a66, a67, a68, a69, a70, a71, a72, a73, a74, a75, a76, a77, a78, a79, a80, a81, a82, a83, a84, a85, a86, a87, a88, a89, a90, a91, a92, a93, a94, a95, a96, a97, a98, a99, a100, a101, a102, a103, a104, z105, z106, z107, z108, z109, z110, z111, z112, z113, z114, z115, z116, z117, z118, z119, z120, z121, z122, z123, z124, z125, z126, z127, z128, z129, z130, z131, z132, z133, z134, z135, z136, z137, z138, z139, z140, z141, z142, z143, z144, z145, z146, z147, z148, z149, z150, z151, z152, z153, z154, a155, a156, a157, a158, a159, a160, a161, a162, a163, a164, a165, a166, a167, a168, a169, a170, a171, a172, a173, a174, a175, a176, a177, a178, a179, a180, a181, a182, a183, a184, a185, a186, a187, a188, a189, a190, a191, a192, a193, a194, a195, a196, a197, a198, a199, a200, a201, a202], []⟩ W')
    (hP : ∀ c (ax : Act) (kx : Option Nat) (vx : Value) (wx : World), Q0 (.panic c) (ax.put kx vx) wx → Q0 (.panic c) ax wx)
    (_hQ : ∀ (z4 z11 z12 z14 z15 z16 z17 z18 z19 z20 z21 z105 z106 z107 z108 z109 z110 z111 z112 z113 z114 z115 z116 z117 z118 z119 z120 z121 z122 z123 z124 z125 z126 z127 z128 z129 z130 z131 z132 z133 z134 z135 z136 z137 z138 z139 z140 z141 z142 z143 z144 z145 z146 z147 z148 z149 z150 z151 z152 z153 z154 : Value) (W' : World), False → Q0 .normal ⟨#[a0, a1, .pointer (some ⟨w.heap.size, 0, none⟩), a3, z4, .pointer (some ⟨k, 0, none⟩), a6, a7, a8, a9, a10, z11, z12, a13, z14, z15, z16, z17, z18, z19, z20, z21, a22, a23, a24, a25, a26, a27, a28, a29, a30, a31, a32, a33, a34, a35, a36, a37, a38, a39, a40, a41, a42, a43, a44, a45, a46, a47, a48, a49, a50, a51, a52, a53, a54, a55, a56, a57, a58, a59, a60, a61, a62, a63, a64, a65, a66, a67, a68, a69, a70, a71, a72, a73, a74, a75, a76, a77, a78, a79, a80, a81, a82, a83, a84, a85, a86, a87, a88, a89, a90, a91, a92, a93, a94, a95, a96, a97, a98, a99, a100, a101, a102, a103, a104, z105, z106, z107, z108, z109, z110, z111, z112, z113, z114, z115, z116, z117, z118, z119, z120, z121, z122, z123, z124, z125, z126, z127, z128, z129, z130, z131, z132, z133, z134, z135, z136, z137, z138, z139, z140, z141, z142, z143, z144, z145, z146, z147, z148, z149, z150, z151, z152, z153, z154, a155, a156, a157, a158, a159, a160, a161, a162, a163, a164, a165, a166, a167, a168, a169, a170, a171, a172, a173, a174, a175, a176, a177, a178, a179, a180, a181, a182, a183, a184, a185, a186, a187, a188, a189, a190, a191, a192, a193, a194, a195, a196, a197, a198, a199, a200, a201, a202], []⟩ W') :
    Code.wp Try.prog (partOf 23 1) Q0 ⟨#[a0, a1, .pointer (some ⟨w.heap.size, 0, none⟩), a3, a4, .pointer (some ⟨k, 0, none⟩), a6, a7, a8, a9, a10, .int .i64 now, .int .i64 (p : Int), a13, a14, a15, a16, a17, a18, a19, a20, a21, a22, a23, a24, a25, a26, a27, a28, a29, a30, a31, a32, a33, a34, a35, a36, a37, a38, a39, a40, a41, a42, a43, a44, a45, a46, a47, a48, a49, a50, a51, a52, a53, a54, a55, a56, a57, a58, a59, a60, a61, a62, a63, a64, a65, a66, a67, a68, a69, a70, a71, a72, a73, a74, a75, a76, a77, a78, a79, a80, a81, a82, a83, a84, a85, a86, a87, a88, a89, a90, a91, a92, a93, a94, a95, a96, a97, a98, a99, a100, a101, a102, a103, a104, a105, a106, a107, a108, a109, a110, a111, a112, a113, a114, a115, a116, a117, a118, a119, a120, a121, a122, a123, a124, a125, a126, a127, a128, a129, a130, a131, a132, a133, a134, a135, a136, a137, a138, a139, a140, a141, a142, a143, a144, a145, a146, a147, a148, a149, a150, a151, a152, a153, a154, a155, a156, a157, a158, a159, a160, a161, a162, a163, a164, a165, a166, a167, a168, a169, a170, a171, a172, a173, a174, a175, a176, a177, a178, a179, a180, a181, a182, a183, a184, a185, a186, a187, a188, a189, a190, a191, a192, a193, a194, a195, a196, a197, a198, a199, a200, a201, a202], []⟩ W := by
  replace hX := Lib.hid hX
  have hn0 := hf.n0
  have hn1 := hf.n1
  have hd0 := h.when (x := now) ⟨hn0, by omega⟩
  rw [hw] at hd0
  have HD := Lib.hid hd0
  have HP := Lib.hid hP
  have HFA := Lib.hid hf
  have HGD := Lib.hid h.po.gd
  have HN := Lib.hid (show 0 ≤ now ∧ now ≤ 290000000000 from ⟨hn0, by omega⟩)
  have HPP := Lib.hid hp
  have HZ := Lib.hid hz
  have HNV := Lib.hid hnv
  clear h hf hk hp hz hc hd0 hw hnv hP hn0 hn1
  conv => arg 2; whnf
  go_step
  apply wp_seq_k
  intro KA hKA
  have HKA := Lib.hid hKA
  clear hKA
  go_wp2_with (go_at_call 12; (with_reducible refine HD.out.mono ?_); rintro e W1 ⟨rfl, F1, hO1⟩; have HO1 := Lib.hid hO1; clear hO1; try dsimp only)
  refine HKA.out _ _ ?_
  go_wp2_with fail
  exact hX.out _ _ _ _ _ _ _ _ _ _ _ _ _ _ _ _ _ _ _ _ _ _ _ _ _ _ _ _ _ _ _ _ _ _ _ _ _ _ _ _ _ _ _ _ _ _ _ _ _ _ _ _ _ _ _ _ _ _ _ _ _ HO1.out HNV.out

set_option maxRecDepth 1000000 in
set_option maxHeartbeats 16000000 in
theorem rn_look_c {w W : World} {k P : Nat} {b cy : Int} {sl : Value} {ts : List (Int × Int)} {F : Nat → Prop} {s : LS} {now : Int} {p kk : Nat} {m : Int} {a0 a1 a3 a4 a6 a7 a8 a9 a10 a13 a14 a15 a16 a17 a18 a19 a20 a21 a22 a23 a24 a25 a26 a27 a28 a29 a30 a31 a32 a33 a34 a35 a36 a37 a38 a39 a40 a41 a42 a43 a44 a45 a46 a47 a48 a49 a50 a51 a52 a53 a54 a55 a56 a57 a58 a59 a60 a61 a62 a63 a64 a65 a66 a67 a68 a69 a70 a71 a72 a73 a74 a75 a76 a77 a78 a79 a80 a81 a82 a83 a84 a85 a86 a87 a88 a89 a90 a91 a92 a93 a94 a95 a96 a97 a98 a99 a100 a101 a102 a103 a104 a105 a106 a107 a108 a109 a110 a111 a112 a113 a114 a115 a116 a117 a118 a119 a120 a121 a122 a123 a124 a125 a126 a127 a128 a129 a130 a131 a132 a133 a134 a135 a136 a137 a138 a139 a140 a141 a142 a143 a144 a145 a146 a147 a148 a149 a150 a151 a152 a153 a154 a155 a156 a157 a158 a159 a160 a161 a162 a163 a164 a165 a166 a167 a168 a169 a170 a171 a172 a173 a174 a175 a176 a177 a178 a179 a180 a181 a182 a183 a184 a185 a186 a187 a188 a189 a190 a191 a192 a193 a194 a195 a196 a197 a198 a199 a200 a201 a202 : Value} {Q0 : Exit → Act → World → Prop}
    (h : WpS w k P b cy sl ts F s W) (hf : Far b cy ts s now kk p) (hk : kk < 8000) (hp : p < 100) (hz : chkV b cy ts = 0) (hc : cy ≤ 16777216) (hw : whenV (PL.new b cy ts) s now = (m, true)) (h1 : now < m) (h2 : m ≤ 300000000000) (hqq : Quiet b cy ts s now m) (hf2 : Far b cy ts s m (kk + 1) p) (hb3 : m + 12800 ≤ 65535 + ((kk + 1 : Nat) : Int) * 33580000)
    (hP : ∀ c (ax : Act) (kx : Option Nat) (vx : Value) (wx : World), Q0 (.panic c) (ax.put kx vx) wx → Q0 (.panic c) ax wx)
    (hQ : ∀ (z4 z14 z15 z16 z17 z18 z19 z20 z21 z105 z106 z107 z108 z109 z110 z111 z112 z113 z114 z115 z116 z117 z118 z119 z120 z121 z122 z123 z124 z125 z126 z127 z128 z129 z130 z131 z132 z133 z134 z135 z136 z137 z138 z139 z140 z141 z142 z143 z144 z145 z146 z147 z148 z149 z150 z151 z152 z153 z154 : Value) (now' : Int) (p' : Nat) (s' : LS) (F' : Nat → Prop) (W' : World), WpS w k P b cy sl ts F' s' W' → Far b cy ts s' now' (kk + 1) p' → p' + s'.tot 8 = p + s.tot 8 → Q0 .normal ⟨#[a0, a1, .pointer (some ⟨w.heap.size, 0, none⟩), a3, z4, .pointer (some ⟨k, 0, none⟩), a6, a7, a8, a9, a10, .int .i64 now', .int .i64 (p' : Int), a13, z14, z15, z16, z17, z18, z19, z20, z21, a22, a23, a24, a25, a26, a27, a28, a29, a30, a31, a32, a33, a34, a35, a36, a37, a38, a39, a40, a41, a42, a43, a44, a45, a46, a47, a48, a49, a50, a51, a52, a53, a54, a55, a56, a57, a58, a59, a60, a61, a62, a63, a64, a65, a66, a67, a68, a69, a70, a71, a72, a73, a74, a75, a76, a77, a78, a79, a80, a81, a82, a83, a84, a85, a86, a87, a88, a89, a90, a91, a92, a93, a94, a95, a96, a97, a98, a99, a100, a101, a102, a103, a104, z105, z106, z107, z108, z109, z110, z111, z112, z113, z114, z115, z116, z117, z118, z119, z120, z121, z122, z123, z124, z125, z126, z127, z128, z129, z130, z131, z132, z133, z134, z135, z136, z137, z138, z139, z140, z141, z142, z143, z144, z145, z146, z147, z148, z149, z150, z151, z152, z153, z154, a155, a156, a157, a158, a159, a160, a161, a162, a163, a164, a165, a166, a167, a168, a169, a170, a171, a172, a173, a174, a175, a176, a177, a178, a179, a180, a181, a182, a183, a184, a185, a186, a187, a188, a189, a190, a191, a192, a193, a194, a195, a196, a197, a198, a199, a200, a201, a202], []⟩ W') :
    Code.wp Try.prog (partOf 23 1) Q0 ⟨#[a0, a1, .pointer (some ⟨w.heap.size, 0, none⟩), a3, a4, .pointer (some ⟨k, 0, none⟩), a6, a7, a8, a9, a10, .int .i64 now, .int .i64 (p : Int), a13, a14, a15, a16, a17, a18, a19, a20, a21, a22, a23, a24, a25, a26, a27, a28, a29, a30, a31, a32, a33, a34, a35, a36, a37, a38, a39, a40, a41, a42, a43, a44, a45, a46, a47, a48, a49, a50, a51, a52, a53, a54, a55, a56, a57, a58, a59, a60, a61, a62, a63, a64, a65, a66, a67, a68, a69, a70, a71, a72, a73, a74, a75, a76, a77, a78, a79, a80, a81, a82, a83, a84, a85, a86, a87, a88, a89, a90, a91, a92, a93, a94, a95, a96, a97, a98, a99, a100, a101, a102, a103, a104, a105, a106, a107, a108, a109, a110, a111, a112, a113, a114, a115, a116, a117, a118, a119, a120, a121, a122, a123, a124, a125, a126, a127, a128, a129, a130, a131, a132, a133, a134, a135, a136, a137, a138, a139, a140, a141, a142, a143, a144, a145, a146, a147, a148, a149, a150, a151, a152, a153, a154, a155, a156, a157, a158, a159, a160, a161, a162, a163, a164, a165, a166, a167, a168, a169, a170, a171, a172, a173, a174, a175, a176, a177, a178, a179, a180, a181, a182, a183, a184, a185, a186, a187, a188, a189, a190, a191, a192, a193, a194, a195, a196, a197, a198, a199, a200, a201, a202], []⟩ W := by
  replace hQ := Lib.hid hQ
  have hn0 := hf.n0
  have hn1 := hf.n1
  have hd0 := h.when (x := now) ⟨hn0, by omega⟩
  rw [hw] at hd0
  have HD := Lib.hid hd0
  have HP := Lib.hid hP
  have HFA := Lib.hid hf
  have HGD := Lib.hid h.po.gd
  have HN := Lib.hid (show 0 ≤ now ∧ now ≤ 290000000000 from ⟨hn0, by omega⟩)
  have HPP := Lib.hid hp
  have HB3 := Lib.hid hb3
  clear hb3
  have HZ := Lib.hid hz
  have HQ3 := Lib.hid hqq
  have HF2 := Lib.hid hf2
  have HM := Lib.hid (And.intro h1 h2)
  have dl : decide (m < now) = false := decide_eq_false (by omega)
  clear h hf hk hp hz hc hd0 hw hP hn0 hn1 hqq hf2 h1 h2
  conv => arg 2; whnf
  go_step
  apply wp_seq_k
  intro KA hKA
  have HKA := Lib.hid hKA
  clear hKA
  go_wp2_with (go_at_call 12; (with_reducible refine HD.out.mono ?_); rintro e W1 ⟨rfl, F1, hO1⟩; have HO1 := Lib.hid hO1; clear hO1; try dsimp only)
  refine HKA.out _ _ ?_
  apply wp_seq_k
  intro KB hKB
  have HKB := Lib.hid hKB
  clear hKB
  go_upto_if 112 with (fail)
  refine wp_cond_false (by go_simp) ?_
  go_step
  refine HKB.out _ _ ?_
  apply wp_seq_k
  intro KC hKC
  have HKC := Lib.hid hKC
  clear hKC
  go_upto_if 115 with (fail)
  refine wp_cond_false (by go_simp) ?_
  go_step
  refine HKC.out _ _ ?_
  apply wp_seq_k
  intro KE hKE
  have HKE := Lib.hid hKE
  clear hKE
  by_cases hm : now + 1 < m
  · have dummy := hm
    refine rn_early_a HO1.out HN.out.1 HM.out.2 hm (fun y hy => HQ3.out (m - 1) (by omega) (by omega) y hy) ?_
    intro z4 z16 z17 z18 z116 z117 z118 z119 z120 z121 z122 z123 z124 z125 z126 z127 z128 F2 W2 hO2
    have HO2 := Lib.hid hO2
    clear hO2
    refine HKE.out _ _ ?_
    rcases pick_ways s (leftOf (PL.new b cy ts) m) with hn | ⟨d, ⟨i0, i1, i2⟩, R, hd8, hq, hx, hmx⟩
    · refine rn_out_a (p := p) HO2.out (by have := HN.out; have := HM.out; omega) HM.out.2 hn (fun cx ax kx vx wx hx => HP.out cx ax kx vx wx hx) ?_
      intro z4 z19 z20 z21 z129 z130 z131 z132 z133 z134 z135 z136 z137 z138 z139 z140 z141 z142 z143 z144 z145 z146 z147 z148 z149 z150 z151 z152 z153 z154 F3 W3 hO3
      exact hQ.out _ _ _ _ _ _ _ _ _ _ _ _ _ _ _ _ _ _ _ _ _ _ _ _ _ _ _ _ _ _ _ _ _ _ _ _ _ _ _ _ _ _ _ _ _ _ _ _ _ _ _ _ _ _ _ _ _ _ _ _ _ _ _ _ hO3 HF2.out rfl
    · have hzz := HGD.out.sz _ hd8 _ (by rw [hq]; exact List.mem_cons_self ..)
      have hz0 : 0 ≤ i1 := hzz.1
      have hz1 : i1 ≤ 1600 := hzz.2
      refine rn_out_b HO2.out (by have := HN.out; have := HM.out; omega) (by have := HN.out; have := HM.out; omega) HPP.out hd8 hq hx hmx (fun cx ax kx vx wx hx => HP.out cx ax kx vx wx hx) ?_
      intro z4 z19 z20 z21 z129 z130 z131 z132 z133 z134 z135 z136 z137 z138 z139 z140 z141 z142 z143 z144 z145 z146 z147 z148 z149 z150 z151 z152 z153 z154 F3 W3 hO3
      have ht := wtot_pop s hd8 hq
      exact hQ.out _ _ _ _ _ _ _ _ _ _ _ _ _ _ _ _ _ _ _ _ _ _ _ _ _ _ _ _ _ _ _ _ _ _ _ _ _ _ _ _ _ _ _ _ _ _ _ _ _ _ _ _ _ _ _ _ _ _ _ _ _ _ _ _ hO3 (HF2.out.waitPick HZ.out (by have := HN.out; have := HM.out; omega) hd8 ⟨_, _, hq, hx⟩ (by omega) (by omega) (by have := HB3.out; omega)) (by omega)
  · have dummy := hm
    refine rn_early_b HO1.out HN.out.1 HM.out.2 hm (Int.le_of_lt HM.out.1) ?_
    intro z4 z16 z17 z18 z116 z117 z118 z119 z120 z121 z122 z123 z124 z125 z126 z127 z128 F2 W2 hO2
    have HO2 := Lib.hid hO2
    clear hO2
    refine HKE.out _ _ ?_
    rcases pick_ways s (leftOf (PL.new b cy ts) m) with hn | ⟨d, ⟨i0, i1, i2⟩, R, hd8, hq, hx, hmx⟩
    · refine rn_out_a (p := p) HO2.out (by have := HN.out; have := HM.out; omega) HM.out.2 hn (fun cx ax kx vx wx hx => HP.out cx ax kx vx wx hx) ?_
      intro z4 z19 z20 z21 z129 z130 z131 z132 z133 z134 z135 z136 z137 z138 z139 z140 z141 z142 z143 z144 z145 z146 z147 z148 z149 z150 z151 z152 z153 z154 F3 W3 hO3
      exact hQ.out _ _ _ _ _ _ _ _ _ _ _ _ _ _ _ _ _ _ _ _ _ _ _ _ _ _ _ _ _ _ _ _ _ _ _ _ _ _ _ _ _ _ _ _ _ _ _ _ _ _ _ _ _ _ _ _ _ _ _ _ _ _ _ _ hO3 HF2.out rfl
    · have hzz := HGD.out.sz _ hd8 _ (by rw [hq]; exact List.mem_cons_self ..)
      have hz0 : 0 ≤ i1 := hzz.1
      have hz1 : i1 ≤ 1600 := hzz.2
      refine rn_out_b HO2.out (by have := HN.out; have := HM.out; omega) (by have := HN.out; have := HM.out; omega) HPP.out hd8 hq hx hmx (fun cx ax kx vx wx hx => HP.out cx ax kx vx wx hx) ?_
      intro z4 z19 z20 z21 z129 z130 z131 z132 z133 z134 z135 z136 z137 z138 z139 z140 z141 z142 z143 z144 z145 z146 z147 z148 z149 z150 z151 z152 z153 z154 F3 W3 hO3
      have ht := wtot_pop s hd8 hq
      exact hQ.out _ _ _ _ _ _ _ _ _ _ _ _ _ _ _ _ _ _ _ _ _ _ _ _ _ _ _ _ _ _ _ _ _ _ _ _ _ _ _ _ _ _ _ _ _ _ _ _ _ _ _ _ _ _ _ _ _ _ _ _ _ _ _ _ hO3 (HF2.out.waitPick HZ.out (by have := HN.out; have := HM.out; omega) hd8 ⟨_, _, hq, hx⟩ (by omega) (by omega) (by have := HB3.out; omega)) (by omega)

end Go.Proofs.Ytllmfkodgalklaa
