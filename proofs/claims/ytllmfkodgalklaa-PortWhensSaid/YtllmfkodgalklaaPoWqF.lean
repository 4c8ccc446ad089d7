/- PortWhens in parts: its main loop. Written by gen_powhens.py. -/
import Derived.Test.YtllmfkodgalklaaPoWqE
namespace Go.Proofs.Ytllmfkodgalklaa
open Go.RowKit Go.Joins Go.Deep

set_option maxRecDepth 1000000 in
set_option maxHeartbeats 16000000 in
theorem rn_look {w W : World} {k P : Nat} {b cy : Int} {sl : Value} {ts : List (Int × Int)} {F : Nat → Prop} {s : LS} {now : Int} {p kk : Nat} {a0 a1 a3 a4 a6 a7 a8 a9 a10 a13 a14 a15 a16 a17 a18 a19 a20 a21 a22 a23 a24 a25 a26 a27 a28 a29 a30 a31 a32 a33 a34 a35 a36 a37 a38 a39 a40 a41 a42 a43 a44 a45 a46 a47 a48 a49 a50 a51 a52 a53 a54 a55 a56 a57 a58 a59 a60 a61 a62 a63 a64 a65 a66 a67 a68 a69 a70 a71 a72 a73 a74 a75 a76 a77 a78 a79 a80 a81 a82 a83 a84 a85 a86 a87 a88 a89 a90 a91 a92 a93 a94 a95 a96 a97 a98 a99 a100 a101 a102 a103 a104 a105 a106 a107 a108 a109 a110 a111 a112 a113 a114 a115 a116 a117 a118 a119 a120 a121 a122 a123 a124 a125 a126 a127 a128 a129 a130 a131 a132 a133 a134 a135 a136 a137 a138 a139 a140 a141 a142 a143 a144 a145 a146 a147 a148 a149 a150 a151 a152 a153 a154 a155 a156 a157 a158 a159 a160 a161 a162 a163 a164 a165 a166 a167 a168 a169 a170 a171 a172 a173 a174 a175 a176 a177 a178 a179 a180 a181 a182 a183 a184 a185 a186 a187 a188 a189 a190 a191 a192 a193 a194 a195 a196 a197 a198 a199 a200 a201 a202 : Value} {Q0 : Exit → Act → World → Prop}
    (h : WpS w k P b cy sl ts F s W) (hf : Far b cy ts s now kk p) (hk : kk < 8000) (hp : p < 100) (hz : chkV b cy ts = 0) (hc : cy ≤ 16777216)
    (hX : ∀ (z4 z14 z15 z16 z17 z18 z19 z20 z21 z105 z106 z107 z108 z109 z110 z111 z112 z113 z114 z115 z116 z117 z118 z119 z120 z121 z122 z123 z124 z125 z126 z127 z128 z129 z130 z131 z132 z133 z134 z135 z136 z137 z138 z139 z140 z141 z142 z143 z144 z145 z146 z147 z148 z149 z150 z151 z152 z153 z154 : Value) (F' : Nat → Prop) (W' : World), WpS w k P b cy sl ts F' s W' → (∀ t, now ≤ t → t ≤ 1099511627775 → ∀ y, y < 8 → ¬ fits s (leftOf (PL.new b cy ts) t) y) → Q0 (.exit 2) ⟨#[a0, a1, .pointer (some ⟨w.heap.size, 0, none⟩), a3, z4, .pointer (some ⟨k, 0, none⟩), a6, a7, a8, a9, a10, .int .i64 now, .int .i64 (p : Int), a13, z14, z15, z16, z17, z18, z19, z20, z21, a22, a23, a24, a25, a26, a27, a28, a29, a30, a31, a32, a33, a34, a35, a36, a37, a38, a39, a40, a41, a42, a43, a44, a45, a46, a47, a48, a49, a50, a51, a52, a53, a54, a55, a56, a57, a58, a59, a60, a61, a62, a63, a64, a65, a66, a67, a68, a69, a70, a71, a72, a73, a74, a75, a76, a77, a78, a79, a80, a81, a82, a83, a84, a85, a86, a87, a88, a89, a90, a91, a92, a93, a94, a95, a96, a97, a98, a99, a100, a101, a102, a103, a104, z105, z106, z107, z108, z109, z110, z111, z112, z113, z114, z115, z116, z117, z118, z119, z120, z121, z122, z123, z124, z125, z126, z127, z128, z129, z130, z131, z132, z133, z134, z135, z136, z137, z138, z139, z140, z141, z142, z143, z144, z145, z146, z147, z148, z149, z150, z151, z152, z153, z154, a155, a156, a157, a158, a159, a160, a161, a162, a163, a164, a165, a166, a167, a168, a169, a170, a171, a172, a173, a174, a175, a176, a177, a178, a179, a180, a181, a182, a183, a184, a185, a186, a187, a188, a189, a190, a191, a192, a193, a194, a195, a196, a197, a198, a199, a200, a201, a202], []⟩ W')
    (hP : ∀ c (ax : Act) (kx : Option Nat) (vx : Value) (wx : World), Q0 (.panic c) (ax.put kx vx) wx → Q0 (.panic c) ax wx)
    (hQ : ∀ (z4 z14 z15 z16 z17 z18 z19 z20 z21 z105 z106 z107 z108 z109 z110 z111 z112 z113 z114 z115 z116 z117 z118 z119 z120 z121 z122 z123 z124 z125 z126 z127 z128 z129 z130 z131 z132 z133 z134 z135 z136 z137 z138 z139 z140 z141 z142 z143 z144 z145 z146 z147 z148 z149 z150 z151 z152 z153 z154 : Value) (now' : Int) (p' : Nat) (s' : LS) (F' : Nat → Prop) (W' : World), WpS w k P b cy sl ts F' s' W' → Far b cy ts s' now' (kk + 1) p' → p' + s'.tot 8 = p + s.tot 8 → Q0 .normal ⟨#[a0, a1, .pointer (some ⟨w.heap.size, 0, none⟩), a3, z4, .pointer (some ⟨k, 0, none⟩), a6, a7, a8, a9, a10, .int .i64 now', .int .i64 (p' : Int), a13, z14, z15, z16, z17, z18, z19, z20, z21, a22, a23, a24, a25, a26, a27, a28, a29, a30, a31, a32, a33, a34, a35, a36, a37, a38, a39, a40, a41, a42, a43, a44, a45, a46, a47, a48, a49, a50, a51, a52, a53, a54, a55, a56, a57, a58, a59, a60, a61, a62, a63, a64, a65, a66, a67, a68, a69, a70, a71, a72, a73, a74, a75, a76, a77, a78, a79, a80, a81, a82, a83, a84, a85, a86, a87, a88, a89, a90, a91, a92, a93, a94, a95, a96, a97, a98, a99, a100, a101, a102, a103, a104, z105, z106, z107, z108, z109, z110, z111, z112, z113, z114, z115, z116, z117, z118, z119, z120, z121, z122, z123, z124, z125, z126, z127, z128, z129, z130, z131, z132, z133, z134, z135, z136, z137, z138, z139, z140, z141, z142, z143, z144, z145, z146, z147, z148, z149, z150, z151, z152, z153, z154, a155, a156, a157, a158, a159, a160, a161, a162, a163, a164, a165, a166, a167, a168, a169, a170, a171, a172, a173, a174, a175, a176, a177, a178, a179, a180, a181, a182, a183, a184, a185, a186, a187, a188, a189, a190, a191, a192, a193, a194, a195, a196, a197, a198, a199, a200, a201, a202], []⟩ W') :
    Code.wp Try.prog (partOf 23 1) Q0 ⟨#[a0, a1, .pointer (some ⟨w.heap.size, 0, none⟩), a3, a4, .pointer (some ⟨k, 0, none⟩), a6, a7, a8, a9, a10, .int .i64 now, .int .i64 (p : Int), a13, a14, a15, a16, a17, a18, a19, a20, a21, a22, a23, a24, a25, a26, a27, a28, a29, a30, a31, a32, a33, a34, a35, a36, a37, a38, a39, a40, a41, a42, a43, a44, a45, a46, a47, a48, a49, a50, a51, a52, a53, a54, a55, a56, a57, a58, a59, a60, a61, a62, a63, a64, a65, a66, a67, a68, a69, a70, a71, a72, a73, a74, a75, a76, a77, a78, a79, a80, a81, a82, a83, a84, a85, a86, a87, a88, a89, a90, a91, a92, a93, a94, a95, a96, a97, a98, a99, a100, a101, a102, a103, a104, a105, a106, a107, a108, a109, a110, a111, a112, a113, a114, a115, a116, a117, a118, a119, a120, a121, a122, a123, a124, a125, a126, a127, a128, a129, a130, a131, a132, a133, a134, a135, a136, a137, a138, a139, a140, a141, a142, a143, a144, a145, a146, a147, a148, a149, a150, a151, a152, a153, a154, a155, a156, a157, a158, a159, a160, a161, a162, a163, a164, a165, a166, a167, a168, a169, a170, a171, a172, a173, a174, a175, a176, a177, a178, a179, a180, a181, a182, a183, a184, a185, a186, a187, a188, a189, a190, a191, a192, a193, a194, a195, a196, a197, a198, a199, a200, a201, a202], []⟩ W := by
  replace hQ := Lib.hid hQ
  replace hQ := hQ.out
  have hn0 := hf.n0
  have hn1 := hf.n1
  rcases when_char b cy ts s now with ⟨hw, y, hy, hfit⟩ | ⟨hn, ⟨hw, ho⟩ | ⟨m, hw, ⟨y, hy, _, hop⟩, hmin⟩⟩
  · rcases pick_ways s (leftOf (PL.new b cy ts) now) with hnn | ⟨d, ⟨i0, i1, i2⟩, R, hd8, hq, hx, hmx⟩
    · exact absurd hfit (hnn y hy)
    · exact rn_look_a h hf hk hp hz hc hw hd8 hq hx hmx hP hQ
  · exact rn_look_b h hf hk hp hz hc hw (never hz h.po.gd hn0 (by omega) hn ho) hX hP (by intros; contradiction)
  · obtain ⟨w1, w2, w3, w4⟩ := hf.wait hz hc h.po.gd hk hn hy hop hmin
    exact rn_look_c h hf hk hp hz hc hw w1 (by omega) w3 w4 (by omega) hP hQ
structure LkRel (w : World) (k P M : Nat) (b cy : Int) (sl : Value) (ts : List (Int × Int)) (nv pv kv : Value) (wr : World) : Prop where
  ex : ∃ (kk p : Nat) (now : Int) (s : LS) (F : Nat → Prop), kv = .int .i64 (kk : Int) ∧ nv = .int .i64 now ∧ pv = .int .i64 (p : Int) ∧ kk ≤ 8000 ∧ p + s.tot 8 = M ∧ WpS w k P b cy sl ts F s wr ∧ Far b cy ts s now kk p
set_option maxRecDepth 1000000 in
set_option maxHeartbeats 16000000 in
theorem rn_looks {w W : World} {k P : Nat} {b cy : Int} {sl : Value} {ts : List (Int × Int)} {F : Nat → Prop} {s : LS} {now : Int} {M : Nat} {a0 a1 a3 a4 a6 a7 a8 a9 a10 a13 a14 a15 a16 a17 a18 a19 a20 a21 a22 a23 a24 a25 a26 a27 a28 a29 a30 a31 a32 a33 a34 a35 a36 a37 a38 a39 a40 a41 a42 a43 a44 a45 a46 a47 a48 a49 a50 a51 a52 a53 a54 a55 a56 a57 a58 a59 a60 a61 a62 a63 a64 a65 a66 a67 a68 a69 a70 a71 a72 a73 a74 a75 a76 a77 a78 a79 a80 a81 a82 a83 a84 a85 a86 a87 a88 a89 a90 a91 a92 a93 a94 a95 a96 a97 a98 a99 a100 a101 a102 a103 a104 a105 a106 a107 a108 a109 a110 a111 a112 a113 a114 a115 a116 a117 a118 a119 a120 a121 a122 a123 a124 a125 a126 a127 a128 a129 a130 a131 a132 a133 a134 a135 a136 a137 a138 a139 a140 a141 a142 a143 a144 a145 a146 a147 a148 a149 a150 a151 a152 a153 a154 a155 a156 a157 a158 a159 a160 a161 a162 a163 a164 a165 a166 a167 a168 a169 a170 a171 a172 a173 a174 a175 a176 a177 a178 a179 a180 a181 a182 a183 a184 a185 a186 a187 a188 a189 a190 a191 a192 a193 a194 a195 a196 a197 a198 a199 a200 a201 a202 : Value} {Q0 : Exit → Act → World → Prop}
    (h : WpS w k P b cy sl ts F s W) (h0 : 0 ≤ now) (h1 : now ≤ 65535) (hm : s.tot 8 = M) (hM : M ≤ 20) (hz : chkV b cy ts = 0) (hc : cy ≤ 16777216)
    (hP : ∀ c (ax : Act) (kx : Option Nat) (vx : Value) (wx : World), Q0 (.panic c) (ax.put kx vx) wx → Q0 (.panic c) ax wx)
    (hQ : ∀ (z4 z13 z14 z15 z16 z17 z18 z19 z20 z21 z101 z102 z103 z104 z105 z106 z107 z108 z109 z110 z111 z112 z113 z114 z115 z116 z117 z118 z119 z120 z121 z122 z123 z124 z125 z126 z127 z128 z129 z130 z131 z132 z133 z134 z135 z136 z137 z138 z139 z140 z141 z142 z143 z144 z145 z146 z147 z148 z149 z150 z151 z152 z153 z154 : Value) (now' : Int) (p' : Nat) (s' : LS) (F' : Nat → Prop) (W' : World), WpS w k P b cy sl ts F' s' W' → (∀ t, now' ≤ t → t ≤ 1099511627775 → ∀ y, y < 8 → ¬ fits s' (leftOf (PL.new b cy ts) t) y) → 0 ≤ now' → now' ≤ 300000000000 → p' + s'.tot 8 = M → Q0 .normal ⟨#[a0, a1, .pointer (some ⟨w.heap.size, 0, none⟩), a3, z4, .pointer (some ⟨k, 0, none⟩), a6, a7, a8, a9, a10, .int .i64 now', .int .i64 (p' : Int), z13, z14, z15, z16, z17, z18, z19, z20, z21, a22, a23, a24, a25, a26, a27, a28, a29, a30, a31, a32, a33, a34, a35, a36, a37, a38, a39, a40, a41, a42, a43, a44, a45, a46, a47, a48, a49, a50, a51, a52, a53, a54, a55, a56, a57, a58, a59, a60, a61, a62, a63, a64, a65, a66, a67, a68, a69, a70, a71, a72, a73, a74, a75, a76, a77, a78, a79, a80, a81, a82, a83, a84, a85, a86, a87, a88, a89, a90, a91, a92, a93, a94, a95, a96, a97, a98, a99, a100, z101, z102, z103, z104, z105, z106, z107, z108, z109, z110, z111, z112, z113, z114, z115, z116, z117, z118, z119, z120, z121, z122, z123, z124, z125, z126, z127, z128, z129, z130, z131, z132, z133, z134, z135, z136, z137, z138, z139, z140, z141, z142, z143, z144, z145, z146, z147, z148, z149, z150, z151, z152, z153, z154, a155, a156, a157, a158, a159, a160, a161, a162, a163, a164, a165, a166, a167, a168, a169, a170, a171, a172, a173, a174, a175, a176, a177, a178, a179, a180, a181, a182, a183, a184, a185, a186, a187, a188, a189, a190, a191, a192, a193, a194, a195, a196, a197, a198, a199, a200, a201, a202], []⟩ W') :
    Code.wp Try.prog (partOf 20 1) Q0 ⟨#[a0, a1, .pointer (some ⟨w.heap.size, 0, none⟩), a3, a4, .pointer (some ⟨k, 0, none⟩), a6, a7, a8, a9, a10, .int .i64 now, .int .i64 0, a13, a14, a15, a16, a17, a18, a19, a20, a21, a22, a23, a24, a25, a26, a27, a28, a29, a30, a31, a32, a33, a34, a35, a36, a37, a38, a39, a40, a41, a42, a43, a44, a45, a46, a47, a48, a49, a50, a51, a52, a53, a54, a55, a56, a57, a58, a59, a60, a61, a62, a63, a64, a65, a66, a67, a68, a69, a70, a71, a72, a73, a74, a75, a76, a77, a78, a79, a80, a81, a82, a83, a84, a85, a86, a87, a88, a89, a90, a91, a92, a93, a94, a95, a96, a97, a98, a99, a100, a101, a102, a103, a104, a105, a106, a107, a108, a109, a110, a111, a112, a113, a114, a115, a116, a117, a118, a119, a120, a121, a122, a123, a124, a125, a126, a127, a128, a129, a130, a131, a132, a133, a134, a135, a136, a137, a138, a139, a140, a141, a142, a143, a144, a145, a146, a147, a148, a149, a150, a151, a152, a153, a154, a155, a156, a157, a158, a159, a160, a161, a162, a163, a164, a165, a166, a167, a168, a169, a170, a171, a172, a173, a174, a175, a176, a177, a178, a179, a180, a181, a182, a183, a184, a185, a186, a187, a188, a189, a190, a191, a192, a193, a194, a195, a196, a197, a198, a199, a200, a201, a202], []⟩ W := by
  replace hQ := Lib.hid hQ
  have HO := Lib.hid h
  have HF0 := Lib.hid (Far.start (chk_good hz) h0 h1 s)
  have HM := Lib.hid hm
  have HMM := Lib.hid hM
  have HZ := Lib.hid hz
  have HC := Lib.hid hc
  have HP := Lib.hid hP
  clear h h0 h1 hm hM hz hc hP
  conv => arg 2; whnf
  go_wp2_with fail
  go_loopw [11, 12, 13] (fun nv pv kv wr => LkRel w k P M b cy sl ts nv pv kv wr) (fun _ _ kv _ => 8000 - (intOf kv).toNat)
  case atStart => exact ⟨⟨0, 0, _, _, _, rfl, rfl, rfl, by omega, by have := HM.out; omega, HO.out, HF0.out⟩⟩
  case round =>
    obtain ⟨kk, p, now1, s1, F1, rfl, rfl, rfl, hkk, hpm, hst, hfar⟩ := hrel.ex
    have HST := Lib.hid hst
    have HFA := Lib.hid hfar
    have HPM := Lib.hid hpm
    clear hst hfar hpm
    rcases Nat.lt_or_ge kk 8000 with g | g
    · have d0 : decide ((kk : Int) < 8000) = true := decide_eq_true (by omega)
      have HG := Lib.hid g
      clear hkk g
      refine wp_hideP (fun cx ax kx vx wx hx => HP.out cx ax kx vx wx hx) (fun Q2 hQ2 hP2 => ?_)
      have HQ2 := Lib.hid hQ2
      have HP2 := Lib.hid hP2
      clear hQ2 hP2
      go_upto_if 102 with (fail)
      refine wp_cond_true (by go_simp) ?_
      go_step
      go_step
      go_step
      clear d0
      apply wp_seq_k
      intro K hK
      refine rn_look HST.out HFA.out HG.out (by have := HPM.out; have := HMM.out; omega) HZ.out HC.out ?_ (fun cx ax kx vx wx hx => HP2.out cx ax kx vx wx hx) ?_
      · intro z4 z14 z15 z16 z17 z18 z19 z20 z21 z105 z106 z107 z108 z109 z110 z111 z112 z113 z114 z115 z116 z117 z118 z119 z120 z121 z122 z123 z124 z125 z126 z127 z128 z129 z130 z131 z132 z133 z134 z135 z136 z137 z138 z139 z140 z141 z142 z143 z144 z145 z146 z147 z148 z149 z150 z151 z152 z153 z154 F' W' hO hnv
        have HS2 := Lib.hid hO
        have HNV := Lib.hid hnv
        have HN0 := Lib.hid (And.intro HFA.out.n0 HFA.out.n1)
        clear hO hnv hK
        go_wp2_with fail
        refine HQ2.out _ _ _ ?_
        exact hQ.out _ _ _ _ _ _ _ _ _ _ _ _ _ _ _ _ _ _ _ _ _ _ _ _ _ _ _ _ _ _ _ _ _ _ _ _ _ _ _ _ _ _ _ _ _ _ _ _ _ _ _ _ _ _ _ _ _ _ _ _ _ _ _ _ _ _ _ _ _ HS2.out HNV.out HN0.out.1 (by have := HN0.out.2; have := HG.out; omega) HPM.out
      · intro z4 z14 z15 z16 z17 z18 z19 z20 z21 z105 z106 z107 z108 z109 z110 z111 z112 z113 z114 z115 z116 z117 z118 z119 z120 z121 z122 z123 z124 z125 z126 z127 z128 z129 z130 z131 z132 z133 z134 z135 z136 z137 z138 z139 z140 z141 z142 z143 z144 z145 z146 z147 z148 z149 z150 z151 z152 z153 z154 now2 p2 s2 F2 W' hO hfar hpm
        refine hK _ _ ?_
        have HS2 := Lib.hid hO
        have HF2 := Lib.hid hfar
        have HM2 := Lib.hid (hpm.trans HPM.out)
        have ec : wrap64 ((kk : Int) + 1) = ((kk + 1 : Nat) : Int) := by have := HG.out; unfold wrap64; omega
        clear hO hfar hpm hK
        go_wp2_with fail
        refine HQ2.out _ _ _ ?_
        dsimp only [Exit.then]
        refine ⟨?_, ?_⟩
        · (repeat apply Exists.intro)
          refine ⟨?_, rfl⟩
          rw [ec]
          exact ⟨⟨kk + 1, p2, now2, s2, F2, rfl, rfl, rfl, by have := HG.out; omega, HM2.out, HS2.out, HF2.out⟩⟩
        · show 8000 - (intOf (.int .i64 (wrap64 ((kk : Int) + 1)))).toNat < 8000 - (intOf (.int .i64 (kk : Int))).toNat
          rw [ec]
          have := HG.out
          show 8000 - ((kk + 1 : Nat) : Int).toNat < 8000 - (kk : Int).toNat
          omega
    · obtain rfl : kk = 8000 := by omega
      have d0 : decide (((8000 : Nat) : Int) < 8000) = false := by decide
      have HNV : Hid (∀ t, now1 ≤ t → t ≤ 1099511627775 → ∀ y, y < 8 → ¬ fits s1 (leftOf (PL.new b cy ts) t) y) := Lib.hid (fun t a1 a2 => HFA.out.done HZ.out (by have := HPM.out; have := HMM.out; omega) t a1 (by omega))
      have HN0 := Lib.hid (And.intro HFA.out.n0 HFA.out.n1)
      clear hkk g
      go_wp2_with fail
      exact hQ.out _ _ _ _ _ _ _ _ _ _ _ _ _ _ _ _ _ _ _ _ _ _ _ _ _ _ _ _ _ _ _ _ _ _ _ _ _ _ _ _ _ _ _ _ _ _ _ _ _ _ _ _ _ _ _ _ _ _ _ _ _ _ _ _ _ _ _ _ _ HST.out HNV.out HN0.out.1 (by have := HN0.out.2; omega) HPM.out

end Go.Proofs.Ytllmfkodgalklaa
