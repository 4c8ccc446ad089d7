/- AgendaRuns in parts: Drop, Wait. Written by gen_agrun.py. -/
import Derived.Test.YtnddiobjojnckaaAgRunE
namespace Go.Proofs.Ytnddiobjojnckaa
open Go.RowKit Go.Joins Go.Deep

set_option maxRecDepth 1000000 in
set_option maxHeartbeats 16000000 in
theorem rn_k1 {w W : World} {B b g i m c4 : Nat} {now put kk x y z : Int} {L : List It} {p4 : Option Addr} {a0 a1 a2 a5 a6 a7 a9 a10 a11 a12 a13 a14 a15 a16 a17 a18 a19 a20 a21 a22 a23 a24 a25 a26 a27 a28 a29 a30 a31 a32 a33 a34 a35 a36 a37 a38 a39 a40 a41 a42 a43 a44 a45 a46 a47 a48 a49 a50 a51 a52 a53 a54 a55 a56 a57 a58 a59 a60 a61 a62 a63 a64 a65 a66 a67 a68 a69 a70 a71 a72 a73 a74 a75 a76 a77 a78 a79 a80 a81 a82 a83 a84 a85 a86 a87 a88 a89 a90 a91 a92 a93 a94 a95 a96 a97 a98 a99 a100 a101 a102 a103 a104 a105 a106 a107 a108 a109 a110 a111 a112 a113 a114 a115 a116 a117 a118 a119 a120 a121 a122 a123 a124 a125 a126 a127 a128 a129 a130 a131 a132 a133 a134 a135 a136 a137 a138 a139 a140 a141 a142 a143 a144 a145 a146 a147 a148 a149 a150 a151 a152 a153 a154 a155 a156 a157 a158 a159 a160 a161 a162 a163 a164 a165 a166 a167 a168 a169 a170 a171 a172 a173 a174 a175 a176 a177 a178 a179 a180 a181 a182 a183 a184 a185 a186 a187 a188 a189 a190 a191 a192 a193 a194 a195 a196 a197 a198 a199 a200 a201 a202 a203 a204 a205 a206 a207 a208 a209 a210 a211 a212 a213 a214 a215 a216 a217 a218 a219 a220 a221 a222 a223 a224 a225 a226 a227 a228 a229 a230 a231 a232 a233 a234 a235 a236 a237 a238 a239 a240 a241 a242 a243 a244 a245 a246 a247 a248 a249 a250 a251 a252 a253 a254 a255 : Value} {Q0 : Exit → Act → World → Prop}
    (hR : RunSt w B g i now put L (.slice p4 m c4) W) (hB : w.heap.size ≤ B) (hm : L.length = m) (hm2 : m ≤ 120) (hO : OBox W b kk x y z)
    (hP : ∀ c (ax : Act) (kx : Option Nat) (vx : Value) (wx : World), Q0 (.panic c) (ax.put kx vx) wx → Q0 (.panic c) ax wx)
    (hQ : ∀ (z2 z11 z12 z88 z89 z90 z91 z92 z93 z94 z95 z96 z97 z98 z99 z100 z101 z102 z103 z104 z105 z106 z107 z108 z109 z110 z111 z112 z113 z114 z115 z116 z117 z118 z119 z120 z121 : Value) (p' : Option Addr) (m' c' : Nat) (L' : List It) (W' : World), RunSt w B g i now put L' (.slice p' m' c') W' → L'.length = m' → Q0 .normal ⟨#[a0, a1, z2, .pointer (some ⟨g, 0, none⟩), (.slice p' m' c'), a5, a6, a7, .pointer (some ⟨b, 0, none⟩), a9, a10, z11, z12, a13, a14, a15, a16, a17, a18, a19, a20, a21, a22, a23, a24, a25, a26, a27, a28, a29, a30, a31, a32, a33, a34, a35, a36, a37, a38, a39, a40, a41, a42, a43, a44, a45, a46, a47, a48, a49, a50, a51, a52, a53, a54, a55, a56, a57, a58, a59, a60, a61, a62, a63, a64, a65, a66, a67, a68, a69, a70, a71, a72, a73, a74, a75, a76, a77, a78, a79, a80, a81, a82, a83, a84, a85, a86, a87, z88, z89, z90, z91, z92, z93, z94, z95, z96, z97, z98, z99, z100, z101, z102, z103, z104, z105, z106, z107, z108, z109, z110, z111, z112, z113, z114, z115, z116, z117, z118, z119, z120, z121, a122, a123, a124, a125, a126, a127, a128, a129, a130, a131, a132, a133, a134, a135, a136, a137, a138, a139, a140, a141, a142, a143, a144, a145, a146, a147, a148, a149, a150, a151, a152, a153, a154, a155, a156, a157, a158, a159, a160, a161, a162, a163, a164, a165, a166, a167, a168, a169, a170, a171, a172, a173, a174, a175, a176, a177, a178, a179, a180, a181, a182, a183, a184, a185, a186, a187, a188, a189, a190, a191, a192, a193, a194, a195, a196, a197, a198, a199, a200, a201, a202, a203, a204, a205, a206, a207, a208, a209, a210, a211, a212, a213, a214, a215, a216, a217, a218, a219, a220, a221, a222, a223, a224, a225, a226, a227, a228, a229, a230, a231, a232, a233, a234, a235, a236, a237, a238, a239, a240, a241, a242, a243, a244, a245, a246, a247, a248, a249, a250, a251, a252, a253, a254, a255], []⟩ W') :
    Code.wp Try.prog (partOf 27 0) Q0 ⟨#[a0, a1, a2, .pointer (some ⟨g, 0, none⟩), .slice p4 m c4, a5, a6, a7, .pointer (some ⟨b, 0, none⟩), a9, a10, a11, a12, a13, a14, a15, a16, a17, a18, a19, a20, a21, a22, a23, a24, a25, a26, a27, a28, a29, a30, a31, a32, a33, a34, a35, a36, a37, a38, a39, a40, a41, a42, a43, a44, a45, a46, a47, a48, a49, a50, a51, a52, a53, a54, a55, a56, a57, a58, a59, a60, a61, a62, a63, a64, a65, a66, a67, a68, a69, a70, a71, a72, a73, a74, a75, a76, a77, a78, a79, a80, a81, a82, a83, a84, a85, a86, a87, a88, a89, a90, a91, a92, a93, a94, a95, a96, a97, a98, a99, a100, a101, a102, a103, a104, a105, a106, a107, a108, a109, a110, a111, a112, a113, a114, a115, a116, a117, a118, a119, a120, a121, a122, a123, a124, a125, a126, a127, a128, a129, a130, a131, a132, a133, a134, a135, a136, a137, a138, a139, a140, a141, a142, a143, a144, a145, a146, a147, a148, a149, a150, a151, a152, a153, a154, a155, a156, a157, a158, a159, a160, a161, a162, a163, a164, a165, a166, a167, a168, a169, a170, a171, a172, a173, a174, a175, a176, a177, a178, a179, a180, a181, a182, a183, a184, a185, a186, a187, a188, a189, a190, a191, a192, a193, a194, a195, a196, a197, a198, a199, a200, a201, a202, a203, a204, a205, a206, a207, a208, a209, a210, a211, a212, a213, a214, a215, a216, a217, a218, a219, a220, a221, a222, a223, a224, a225, a226, a227, a228, a229, a230, a231, a232, a233, a234, a235, a236, a237, a238, a239, a240, a241, a242, a243, a244, a245, a246, a247, a248, a249, a250, a251, a252, a253, a254, a255], []⟩ W := by
  replace hQ := Lib.hid hQ
  conv => arg 2; whnf
  apply wp_seq_k
  intro K1 hK1
  have HK1 := Lib.hid hK1
  clear hK1
  go_wp2_with fail
  refine HK1.out _ _ ?_
  apply wp_seq_k
  intro K hK
  refine rn_find hR.its hm hm2 hO ?_
  intro z12 z88 z89 z90 z91 z92 z93 z94 z95 z96 z97 z98 z99 z100 z101 z102 a W1 hf hb
  refine hK _ _ ?_
  have hR1 := run_far hR hb
  obtain ⟨_, o1, _⟩ := (OBox.kept hO (AgI.KeptT.of_below hb)).cells
  clear hK hR hO hb
  rcases hf with ⟨rfl, hn⟩ | ⟨j, hj, rfl, hx⟩
  · have HD := Lib.hid (drop_no hR1 hB (by omega) (by rw [hm]; exact hn))
    have HM := Lib.hid hm
    clear hR1 hn hm
    go_wp2_with (go_at_call 7; (with_reducible refine HD.out.mono ?_); rintro e W2 ⟨rfl, h2⟩; have H2 := Lib.hid h2; clear h2)
    exact hQ.out _ _ _ _ _ _ _ _ _ _ _ _ _ _ _ _ _ _ _ _ _ _ _ _ _ _ _ _ _ _ _ _ _ _ _ _ _ _ _ _ _ _ H2.out HM.out
  · have HD := Lib.hid (drop_yes (x := x) (b := j) hR1 hB (by omega) (by omega) hx)
    have HM := Lib.hid hm
    clear hR1 hx hm
    go_upto_if 111 with (go_at_call 7; (with_reducible refine HD.out.mono ?_); rintro e W2 ⟨rfl, h2⟩; have H2 := Lib.hid h2; clear h2)
    refine wp_cond_true (by go_simp) ?_
    refine rn_erase37 H2.out.its HM.out hm2 hj (fun cx ax kx vx wx hx => hP cx ax kx vx wx hx) ?_
    intro z112 z113 z114 z115 z116 z117 z118 z119 z120 z121 p' m' c' W3 hl hi hb
    exact hQ.out _ _ _ _ _ _ _ _ _ _ _ _ _ _ _ _ _ _ _ _ _ _ _ _ _ _ _ _ _ _ _ _ _ _ _ _ _ _ _ _ _ _ (H2.out.out hb hi) hl

set_option maxRecDepth 1000000 in
set_option maxHeartbeats 16000000 in
theorem rn_wait {w W : World} {B b g i m c4 : Nat} {now put kk x y z : Int} {L : List It} {p4 : Option Addr} {a : Int} {a0 a1 a2 a6 a7 a9 a10 a11 a12 a14 a15 a16 a17 a18 a19 a20 a21 a22 a23 a24 a25 a26 a27 a28 a29 a30 a31 a32 a33 a34 a35 a36 a37 a38 a39 a40 a41 a42 a43 a44 a45 a46 a47 a48 a49 a50 a51 a52 a53 a54 a55 a56 a57 a58 a59 a60 a61 a62 a63 a64 a65 a66 a67 a68 a69 a70 a71 a72 a73 a74 a75 a76 a77 a78 a79 a80 a81 a82 a83 a84 a85 a86 a87 a88 a89 a90 a91 a92 a93 a94 a95 a96 a97 a98 a99 a100 a101 a102 a103 a104 a105 a106 a107 a108 a109 a110 a111 a112 a113 a114 a115 a116 a117 a118 a119 a120 a121 a122 a123 a124 a125 a126 a127 a128 a129 a130 a131 a132 a133 a134 a135 a136 a137 a138 a139 a140 a141 a142 a143 a144 a145 a146 a147 a148 a149 a150 a151 a152 a153 a154 a155 a156 a157 a158 a159 a160 a161 a162 a163 a164 a165 a166 a167 a168 a169 a170 a171 a172 a173 a174 a175 a176 a177 a178 a179 a180 a181 a182 a183 a184 a185 a186 a187 a188 a189 a190 a191 a192 a193 a194 a195 a196 a197 a198 a199 a200 a201 a202 a203 a204 a205 a206 a207 a208 a209 a210 a211 a212 a213 a214 a215 a216 a217 a218 a219 a220 a221 a222 a223 a224 a225 a226 a227 a228 a229 a230 a231 a232 a233 a234 a235 a236 a237 a238 a239 a240 a241 a242 a243 a244 a245 a246 a247 a248 a249 a250 a251 a252 a253 a254 a255 : Value} {Q0 : Exit → Act → World → Prop}
    (hR : RunSt w B g i now put L (.slice p4 m c4) W) (hB : w.heap.size ≤ B) (hm : L.length = m) (hm2 : m ≤ 120) (hO : OBox W b kk x y z) (ha : BestSt L m a)
    (hQ : ∀ (z2 z15 z150 z151 z152 z153 z154 z155 z156 z157 z158 z159 z160 z161 z162 z163 z164 z165 z166 z167 z168 z169 z170 : Value) (now' : Int) (W' : World), RunSt w B g i now' put L (.slice p4 m c4) W' → Q0 (.exit 2) ⟨#[a0, a1, z2, .pointer (some ⟨g, 0, none⟩), .slice p4 m c4, .int .i64 now', a6, a7, .pointer (some ⟨b, 0, none⟩), a9, a10, a11, a12, .int .i64 a, a14, z15, a16, a17, a18, a19, a20, a21, a22, a23, a24, a25, a26, a27, a28, a29, a30, a31, a32, a33, a34, a35, a36, a37, a38, a39, a40, a41, a42, a43, a44, a45, a46, a47, a48, a49, a50, a51, a52, a53, a54, a55, a56, a57, a58, a59, a60, a61, a62, a63, a64, a65, a66, a67, a68, a69, a70, a71, a72, a73, a74, a75, a76, a77, a78, a79, a80, a81, a82, a83, a84, a85, a86, a87, a88, a89, a90, a91, a92, a93, a94, a95, a96, a97, a98, a99, a100, a101, a102, a103, a104, a105, a106, a107, a108, a109, a110, a111, a112, a113, a114, a115, a116, a117, a118, a119, a120, a121, a122, a123, a124, a125, a126, a127, a128, a129, a130, a131, a132, a133, a134, a135, a136, a137, a138, a139, a140, a141, a142, a143, a144, a145, a146, a147, a148, a149, z150, z151, z152, z153, z154, z155, z156, z157, z158, z159, z160, z161, z162, z163, z164, z165, z166, z167, z168, z169, z170, a171, a172, a173, a174, a175, a176, a177, a178, a179, a180, a181, a182, a183, a184, a185, a186, a187, a188, a189, a190, a191, a192, a193, a194, a195, a196, a197, a198, a199, a200, a201, a202, a203, a204, a205, a206, a207, a208, a209, a210, a211, a212, a213, a214, a215, a216, a217, a218, a219, a220, a221, a222, a223, a224, a225, a226, a227, a228, a229, a230, a231, a232, a233, a234, a235, a236, a237, a238, a239, a240, a241, a242, a243, a244, a245, a246, a247, a248, a249, a250, a251, a252, a253, a254, a255], []⟩ W') :
    Code.wp Try.prog (partOf 48 0) Q0 ⟨#[a0, a1, a2, .pointer (some ⟨g, 0, none⟩), .slice p4 m c4, .int .i64 now, a6, a7, .pointer (some ⟨b, 0, none⟩), a9, a10, a11, a12, .int .i64 a, a14, a15, a16, a17, a18, a19, a20, a21, a22, a23, a24, a25, a26, a27, a28, a29, a30, a31, a32, a33, a34, a35, a36, a37, a38, a39, a40, a41, a42, a43, a44, a45, a46, a47, a48, a49, a50, a51, a52, a53, a54, a55, a56, a57, a58, a59, a60, a61, a62, a63, a64, a65, a66, a67, a68, a69, a70, a71, a72, a73, a74, a75, a76, a77, a78, a79, a80, a81, a82, a83, a84, a85, a86, a87, a88, a89, a90, a91, a92, a93, a94, a95, a96, a97, a98, a99, a100, a101, a102, a103, a104, a105, a106, a107, a108, a109, a110, a111, a112, a113, a114, a115, a116, a117, a118, a119, a120, a121, a122, a123, a124, a125, a126, a127, a128, a129, a130, a131, a132, a133, a134, a135, a136, a137, a138, a139, a140, a141, a142, a143, a144, a145, a146, a147, a148, a149, a150, a151, a152, a153, a154, a155, a156, a157, a158, a159, a160, a161, a162, a163, a164, a165, a166, a167, a168, a169, a170, a171, a172, a173, a174, a175, a176, a177, a178, a179, a180, a181, a182, a183, a184, a185, a186, a187, a188, a189, a190, a191, a192, a193, a194, a195, a196, a197, a198, a199, a200, a201, a202, a203, a204, a205, a206, a207, a208, a209, a210, a211, a212, a213, a214, a215, a216, a217, a218, a219, a220, a221, a222, a223, a224, a225, a226, a227, a228, a229, a230, a231, a232, a233, a234, a235, a236, a237, a238, a239, a240, a241, a242, a243, a244, a245, a246, a247, a248, a249, a250, a251, a252, a253, a254, a255], []⟩ W := by
  replace hQ := Lib.hid hQ
  obtain ⟨_, o1, _⟩ := hO.cells
  obtain ⟨y1, hy1⟩ : ∃ y, (if 1099511627776 < x then (1099511627776 : Int) else x) = y := ⟨_, rfl⟩
  have f1 : y1 = min x 1099511627776 := by rw [← hy1]; split <;> omega
  have F1 := Lib.hid f1
  clear f1
  rcases ha with ⟨hm0, rfl⟩ | ⟨t, rfl, hbest⟩
  · obtain ⟨y3, hy3⟩ : ∃ y, (if now < y1 then y1 else now) = y := ⟨_, rfl⟩
    have f3 : max now (min x 1099511627776) = y3 := by have := F1.out; rw [← hy3]; split <;> omega
    obtain rfl := List.eq_nil_of_length_eq_zero (hm.trans hm0)
    have HD := Lib.hid (wait_no (x := x) hR hB)
    rw [f3] at HD
    clear hR hO hm f3 hm0
    conv => arg 2; whnf
    go_wp2_with (go_at_call 8; (with_reducible refine HD.out.mono ?_); rintro e W2 ⟨rfl, h2⟩; have H2 := Lib.hid h2; clear h2)
    exact hQ.out _ _ _ _ _ _ _ _ _ _ _ _ _ _ _ _ _ _ _ _ _ _ _ _ _ H2.out
  · rw [← hm] at hbest
    obtain ⟨n, hn⟩ : ∃ n, (it L t).1 = n := ⟨_, rfl⟩
    obtain ⟨y2, hy2⟩ : ∃ y, (if n < y1 then n else y1) = y := ⟨_, rfl⟩
    obtain ⟨y3, hy3⟩ : ∃ y, (if now < y2 then y2 else now) = y := ⟨_, rfl⟩
    have f3 : max now (min (min x 1099511627776) (it L t).1) = y3 := by
      have := F1.out
      have f2 : y2 = min y1 n := by rw [← hy2]; split <;> omega
      rw [hn, ← hy3]
      split <;> omega
    have HD := Lib.hid (wait_yes (x := x) hR hB hbest)
    rw [f3] at HD
    obtain ⟨r, cap, e, _, _, _, hc⟩ := hR.its.row (by have := hbest.1; omega)
    injection e with e1 e2 e3
    subst e1
    subst e3
    obtain ⟨c1, _, _⟩ := hc t hbest.1
    rw [hn] at c1
    have g2 : t < m := by have := hbest.1; omega
    have et : IntKind.i64.wrap (t : Int) = (t : Int) := by rw [IntKind.wrap_i64]; omega
    clear hR hO hm e2 hc hbest f3 hn
    conv => arg 2; whnf
    go_wp2_with (go_at_call 8; (with_reducible refine HD.out.mono ?_); rintro e W2 ⟨rfl, h2⟩; have H2 := Lib.hid h2; clear h2)
    exact hQ.out _ _ _ _ _ _ _ _ _ _ _ _ _ _ _ _ _ _ _ _ _ _ _ _ _ H2.out

end Go.Proofs.Ytnddiobjojnckaa
