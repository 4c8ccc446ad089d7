/- PortRuns: the whole switch, and the whole round behind what is skipped, in declarations of their own. Written by gen_porunsw.py. -/
import Derived.Test.YtlpijhopllhccaaPoRunC
namespace Go.Proofs.Ytlpijhopllhccaa
open Go.RowKit Go.Joins

set_option maxRecDepth 1000000 in
set_option maxHeartbeats 16000000 in
theorem rn_sw {w wc : World} {k L b c1 c2 g : Nat} {S : SP} {p Q : PL} {s : LS} {now : Int} {v1 : Value} {qp ps : Option Addr} {qn qc ns cs : Nat} {Q0 : Exit → Act → World → Prop} {a0 a1 a2 a3 a4 a5 a6 a8 a9 a10 a11 a12 a13 a15 a21 a23 a24 a25 a26 a27 a28 a29 a30 a31 a32 a33 a34 a35 a36 a37 a38 a39 a40 a41 a42 a43 a44 a45 a46 a47 a48 a49 a50 a51 a52 a53 a54 a55 a56 a57 a58 a59 a60 a61 a62 a63 a64 a65 a66 a67 a68 a69 a70 a71 a72 a73 a74 a75 a76 a77 a78 a79 a80 a81 a82 a83 a84 a85 a86 a87 a88 a89 a90 a91 a92 a93 a94 a95 a96 a97 a98 a99 a100 a101 a102 a103 a104 a105 a106 a107 a108 a109 a110 a111 a112 a113 a114 a115 a116 a117 a118 a119 a120 a121 a122 a123 a124 a125 a126 a127 a128 a129 a130 a131 a132 a133 a134 a135 a136 a137 a138 a139 a140 a141 a142 a143 a144 a145 a146 a147 a148 a149 a150 a151 a152 a153 a154 a155 a156 a157 a158 a159 a160 a161 a162 a163 a164 a165 a166 a167 a168 a169 a170 a171 a172 a173 a174 a175 a176 a177 a178 a179 a180 a181 a182 a183 a184 a185 a186 a187 a188 a189 a190 a191 a192 a193 a194 a195 a196 a197 a198 a199 a200 a201 a202 a203 a204 a205 a206 a207 a208 a209 a210 a211 a212 a213 a214 a215 a216 a217 a218 a219 a220 a221 a222 a223 a224 a225 a226 a227 a228 a229 a230 a231 a232 a233 a234 a235 a236 a237 a238 a239 a240 a241 a242 a243 a244 a245 a246 a247 a248 a249 a250 a251 a252 a253 a254 a255 a256 a257 a258 a259 a260 a261 a262 a263 a264 a265 a266 a267 a268 a269 a270 a271 a272 a273 a274 a275 a276 a277 a278 a279 a280 a281 a282 a283 a284 a285 a286 a287 a288 a289 a290 a291 a292 a293 a294 a295 : Value} (HX : Hid (RnT w k L b c1 c2 g S p Q v1 (.slice qp qn qc) s now wc)) (HT : Hid (0 ≤ now ∧ now ≤ 85899345920 ∧ 0 ≤ S.d ∧ S.d ≤ 1073741824)) (HSL : Hid (S.sl = .slice ps ns cs)) (HAS0 : Hid (TArg w (.slice ps ns cs) S.ts)) (HN : Hid (S.ts.length ≤ 64)) (hP : ∀ c (ax : Act) (kx : Option Nat) (vx : Value) (wx : World), Q0 (.panic c) (ax.put kx vx) wx → Q0 (.panic c) ax wx)
    (hQ : ∀ (z23 z24 z25 z26 z27 z28 z29 z30 z31 z151 z152 z153 z154 z155 z156 z157 z158 z159 z160 z161 z162 z163 z164 z165 z166 z167 z168 z169 z170 z171 z172 z173 z174 z175 z176 z177 z178 z179 z180 z181 z182 z183 z184 z185 z186 z187 z188 z189 z190 z191 z192 z193 z194 z195 z196 z197 z198 z199 z200 z201 z202 z203 z204 z205 z206 z207 z208 z209 z210 z211 z212 z213 z214 z215 z216 z217 z218 z219 z220 z221 z222 z223 z224 z225 z226 z227 z228 z229 z230 z231 z232 z233 z234 z235 z236 z237 z238 z239 z240 z241 z242 z243 z244 z245 z246 z247 z248 z249 z250 z251 z252 z253 z254 z255 z256 z257 z258 z259 z260 z261 z262 z263 z264 z265 z266 z267 z268 z269 z270 z271 z272 z273 z274 nv fv wv : Value) (W : World), RnE w k L b c1 c2 g S now nv fv wv W → Q0 .normal ⟨#[a0, a1, a2, a3, a4, a5, a6, .pointer (some ⟨k, 0, none⟩), a8, a9, a10, a11, a12, a13, .pointer (some ⟨b, 0, none⟩), a15, nv, .pointer (some ⟨c1, 0, none⟩), .pointer (some ⟨c2, 0, none⟩), fv, wv, a21, .pointer (some ⟨g, 0, none⟩), z23, z24, z25, z26, z27, z28, z29, z30, z31, a32, a33, a34, a35, a36, a37, a38, a39, a40, a41, a42, a43, a44, a45, a46, a47, a48, a49, a50, a51, a52, a53, a54, a55, a56, a57, a58, a59, a60, a61, a62, a63, a64, a65, a66, a67, a68, a69, a70, a71, a72, a73, a74, a75, a76, a77, a78, a79, a80, a81, a82, a83, a84, a85, a86, a87, a88, a89, a90, a91, a92, a93, a94, a95, a96, a97, a98, a99, a100, a101, a102, a103, a104, a105, a106, a107, a108, a109, a110, a111, a112, a113, a114, a115, a116, a117, a118, a119, a120, a121, a122, a123, a124, a125, a126, a127, a128, a129, a130, a131, a132, a133, a134, a135, a136, a137, a138, a139, a140, a141, a142, a143, a144, a145, a146, a147, a148, a149, a150, z151, z152, z153, z154, z155, z156, z157, z158, z159, z160, z161, z162, z163, z164, z165, z166, z167, z168, z169, z170, z171, z172, z173, z174, z175, z176, z177, z178, z179, z180, z181, z182, z183, z184, z185, z186, z187, z188, z189, z190, z191, z192, z193, z194, z195, z196, z197, z198, z199, z200, z201, z202, z203, z204, z205, z206, z207, z208, z209, z210, z211, z212, z213, z214, z215, z216, z217, z218, z219, z220, z221, z222, z223, z224, z225, z226, z227, z228, z229, z230, z231, z232, z233, z234, z235, z236, z237, z238, z239, z240, z241, z242, z243, z244, z245, z246, z247, z248, z249, z250, z251, z252, z253, z254, z255, z256, z257, z258, z259, z260, z261, z262, z263, z264, z265, z266, z267, z268, z269, z270, z271, z272, z273, z274, a275, a276, a277, a278, a279, a280, a281, a282, a283, a284, a285, a286, a287, a288, a289, a290, a291, a292, a293, a294, a295], []⟩ W) :
    Code.wp Try.prog (partOf 28 1) Q0 ⟨#[a0, a1, a2, a3, a4, a5, a6, .pointer (some ⟨k, 0, none⟩), a8, a9, a10, a11, a12, a13, .pointer (some ⟨b, 0, none⟩), a15, .int .i64 now, .pointer (some ⟨c1, 0, none⟩), .pointer (some ⟨c2, 0, none⟩), .int .i64 Q.fr, .bool Q.wt, a21, .pointer (some ⟨g, 0, none⟩), a23, a24, a25, a26, a27, a28, a29, a30, a31, a32, a33, a34, a35, a36, a37, a38, a39, a40, a41, a42, a43, a44, a45, a46, a47, a48, a49, a50, a51, a52, a53, a54, a55, a56, a57, a58, a59, a60, a61, a62, a63, a64, a65, a66, a67, a68, a69, a70, a71, a72, a73, a74, a75, a76, a77, a78, a79, a80, a81, a82, a83, a84, a85, a86, a87, a88, a89, a90, a91, a92, a93, a94, a95, a96, a97, a98, a99, a100, a101, a102, a103, a104, a105, a106, a107, a108, a109, a110, a111, a112, a113, a114, a115, a116, a117, a118, a119, a120, a121, a122, a123, a124, a125, a126, a127, a128, a129, a130, a131, a132, a133, a134, a135, a136, a137, a138, a139, a140, a141, a142, a143, a144, a145, a146, a147, a148, a149, a150, a151, a152, a153, a154, a155, a156, a157, a158, a159, a160, a161, a162, a163, a164, a165, a166, a167, a168, a169, a170, a171, a172, a173, a174, a175, a176, a177, a178, a179, a180, a181, a182, a183, a184, a185, a186, a187, a188, a189, a190, a191, a192, a193, a194, a195, a196, a197, a198, a199, a200, a201, a202, a203, a204, a205, a206, a207, a208, a209, a210, a211, a212, a213, a214, a215, a216, a217, a218, a219, a220, a221, a222, a223, a224, a225, a226, a227, a228, a229, a230, a231, a232, a233, a234, a235, a236, a237, a238, a239, a240, a241, a242, a243, a244, a245, a246, a247, a248, a249, a250, a251, a252, a253, a254, a255, a256, a257, a258, a259, a260, a261, a262, a263, a264, a265, a266, a267, a268, a269, a270, a271, a272, a273, a274, a275, a276, a277, a278, a279, a280, a281, a282, a283, a284, a285, a286, a287, a288, a289, a290, a291, a292, a293, a294, a295], []⟩ wc := by
  have HK := Lib.hid hQ
  clear hQ
  obtain ⟨y0, y1, y2, y3, y4, y5, y6, y7, y8⟩ := HX.out.st.cells
  conv => arg 2; whnf
  by_cases k0 : S.k = 0
  · rw [k0] at y0
    clear k0
    go_upto_if 153 with (fail)
    refine wp_cond_true (by go_simp) ?_
    refine rn_k0 (qp := qp) (qn := qn) (qc := qc) HX (fun cx ax kx vx wx hx => hP cx ax kx vx wx hx) ?_
    intro z155 z156 z157 z158 z159 z160 z161 z162 z163 z164 z165 z166 z167 W2 hr
    exact HK.out _ _ _ _ _ _ _ _ _ _ _ _ _ _ _ _ _ _ _ _ _ _ _ _ _ _ _ _ _ _ _ _ _ _ _ _ _ _ _ _ _ _ _ _ _ _ _ _ _ _ _ _ _ _ _ _ _ _ _ _ _ _ _ _ _ _ _ _ _ _ _ _ _ _ _ _ _ _ _ _ _ _ _ _ _ _ _ _ _ _ _ _ _ _ _ _ _ _ _ _ _ _ _ _ _ _ _ _ _ _ _ _ _ _ _ _ _ _ _ _ _ _ _ _ _ _ _ _ _ _ _ _ _ _ _ _ W2 ⟨_, _, _, _, _, now, rfl, rfl, rfl, Int.le_refl _, by omega, hr⟩
  by_cases k1 : S.k = 1
  · rw [k1] at y0
    clear k0 k1
    go_upto_if 168 with (fail)
    refine wp_cond_true (by go_simp) ?_
    obtain ⟨m, hm⟩ : ∃ m, now + S.d = m := ⟨_, rfl⟩
    have HMM : Hid (now ≤ m ∧ m ≤ now + 1073741824 ∧ 0 ≤ m ∧ m ≤ 1099511627776) := Lib.hid (by have := HT.out; omega)
    have em : wrap64 (now + S.d) = m := by have := HMM.out; rw [hm]; unfold wrap64; omega
    have ek : IntKind.i64.wrap (now + S.d) = m := by rw [IntKind.wrap_i64]; have := HMM.out; omega; 
    have HXm := Lib.hid (HX.out.mono HMM.out.1)
    clear hm
    apply wp_seq_k
    intro K1 hK1
    have HK1 := Lib.hid hK1
    clear hK1
    go_wp2_with fail
    refine HK1.out _ _ ?_
    apply wp_seq_k
    intro K2 hK2
    refine rn_due34 HXm ?_
    intro wv z174 z175 z176 z177 z178 z179 z180 W hq
    refine hK2 _ _ ?_
    obtain ⟨v1', rfl, hq⟩ := hq
    have e := lawT_fr Q m
    have hi := lawT_idem Q m
    generalize lawT Q m = Q1 at *
    rw [← e]
    have HQ1 := Lib.hid hi
    have HX1 := Lib.hid hq
    obtain ⟨lp, lc, rfl⟩ := hq.rs.a1.slice
    refine rn_k1b HX1 HQ1 (Lib.hid ⟨HMM.out.2.2.1, HMM.out.2.2.2⟩) (fun cx ax kx vx wx hx => hP cx ax kx vx wx hx) ?_
    intro z23 z24 z25 z26 z27 z28 z29 z30 z181 z182 z183 z184 z185 z186 z187 z188 z189 z190 z191 z192 z193 z194 z195 z196 z197 z198 z199 z200 z201 z202 z203 z204 z205 z206 z207 z208 z209 z210 z211 z212 z213 z214 z215 z216 z217 z218 z219 z220 z221 z222 z223 z224 z225 z226 z227 z228 z229 z230 z231 z232 z233 z234 z235 z236 z237 z238 W2 s2 hr
    exact HK.out _ _ _ _ _ _ _ _ _ _ _ _ _ _ _ _ _ _ _ _ _ _ _ _ _ _ _ _ _ _ _ _ _ _ _ _ _ _ _ _ _ _ _ _ _ _ _ _ _ _ _ _ _ _ _ _ _ _ _ _ _ _ _ _ _ _ _ _ _ _ _ _ _ _ _ _ _ _ _ _ _ _ _ _ _ _ _ _ _ _ _ _ _ _ _ _ _ _ _ _ _ _ _ _ _ _ _ _ _ _ _ _ _ _ _ _ _ _ _ _ _ _ _ _ _ _ _ _ _ _ _ _ _ _ _ _ W2 ⟨_, _, _, _, _, m, rfl, rfl, rfl, HMM.out.1, HMM.out.2.1, hr⟩
  by_cases k2 : S.k = 2
  · rw [k2] at y0
    clear k0 k1 k2
    go_upto_if 239 with (fail)
    refine wp_cond_true (by go_simp) ?_
    obtain ⟨m, hm⟩ : ∃ m, now + S.d = m := ⟨_, rfl⟩
    have HMM : Hid (now ≤ m ∧ m ≤ now + 1073741824 ∧ 0 ≤ m ∧ m ≤ 1099511627776) := Lib.hid (by have := HT.out; omega)
    have em : wrap64 (now + S.d) = m := by have := HMM.out; rw [hm]; unfold wrap64; omega
    have ek : IntKind.i64.wrap (now + S.d) = m := by rw [IntKind.wrap_i64]; have := HMM.out; omega; 
    have HXm := Lib.hid (HX.out.mono HMM.out.1)
    clear hm
    apply wp_seq_k
    intro K1 hK1
    have HK1 := Lib.hid hK1
    clear hK1
    go_wp2_with fail
    refine HK1.out _ _ ?_
    apply wp_seq_k
    intro K2 hK2
    refine rn_due53 HXm ?_
    intro wv z245 z246 z247 z248 z249 z250 z251 W hq
    refine hK2 _ _ ?_
    obtain ⟨v1', rfl, hq⟩ := hq
    have e := lawT_fr Q m
    have hi := lawT_idem Q m
    generalize lawT Q m = Q1 at *
    rw [← e]
    have HQ1 := Lib.hid hi
    have HX1 := Lib.hid hq
    refine rn_k2b HX1 HQ1 (Lib.hid ⟨HMM.out.2.2.1, HMM.out.2.2.2⟩) HSL HAS0 HN (fun cx ax kx vx wx hx => hP cx ax kx vx wx hx) ?_
    intro z31 z252 z253 z254 z255 z256 z257 z258 z259 z260 z261 z262 z263 z264 z265 z266 z267 z268 z269 z270 z271 z272 z273 z274 W2 p2 Q2 v2' hr
    exact HK.out _ _ _ _ _ _ _ _ _ _ _ _ _ _ _ _ _ _ _ _ _ _ _ _ _ _ _ _ _ _ _ _ _ _ _ _ _ _ _ _ _ _ _ _ _ _ _ _ _ _ _ _ _ _ _ _ _ _ _ _ _ _ _ _ _ _ _ _ _ _ _ _ _ _ _ _ _ _ _ _ _ _ _ _ _ _ _ _ _ _ _ _ _ _ _ _ _ _ _ _ _ _ _ _ _ _ _ _ _ _ _ _ _ _ _ _ _ _ _ _ _ _ _ _ _ _ _ _ _ _ _ _ _ _ _ _ W2 ⟨_, _, _, _, _, m, rfl, rfl, rfl, HMM.out.1, HMM.out.2.1, hr⟩
  have e0 : (S.k == 0) = false := beq_eq_false_iff_ne.mpr k0
  have e1 : (S.k == 1) = false := beq_eq_false_iff_ne.mpr k1
  have e2 : (S.k == 2) = false := beq_eq_false_iff_ne.mpr k2
  go_wp2_with fail
  exact HK.out _ _ _ _ _ _ _ _ _ _ _ _ _ _ _ _ _ _ _ _ _ _ _ _ _ _ _ _ _ _ _ _ _ _ _ _ _ _ _ _ _ _ _ _ _ _ _ _ _ _ _ _ _ _ _ _ _ _ _ _ _ _ _ _ _ _ _ _ _ _ _ _ _ _ _ _ _ _ _ _ _ _ _ _ _ _ _ _ _ _ _ _ _ _ _ _ _ _ _ _ _ _ _ _ _ _ _ _ _ _ _ _ _ _ _ _ _ _ _ _ _ _ _ _ _ _ _ _ _ _ _ _ _ _ _ _ _ ⟨_, _, _, _, _, now, rfl, rfl, rfl, Int.le_refl _, by omega, HX.out⟩

set_option maxRecDepth 1000000 in
set_option maxHeartbeats 16000000 in
theorem rn_body {w wc : World} {k L b c1 c2 g : Nat} {S : SP} {p Q : PL} {s : LS} {now : Int} {v1 : Value} {qp ps : Option Addr} {qn qc ns cs : Nat} {Q0 : Exit → Act → World → Prop} {a0 a1 a2 a3 a4 a5 a6 a8 a9 a10 a11 a12 a13 a15 a21 a23 a24 a25 a26 a27 a28 a29 a30 a31 a32 a33 a34 a35 a36 a37 a38 a39 a40 a41 a42 a43 a44 a45 a46 a47 a48 a49 a50 a51 a52 a53 a54 a55 a56 a57 a58 a59 a60 a61 a62 a63 a64 a65 a66 a67 a68 a69 a70 a71 a72 a73 a74 a75 a76 a77 a78 a79 a80 a81 a82 a83 a84 a85 a86 a87 a88 a89 a90 a91 a92 a93 a94 a95 a96 a97 a98 a99 a100 a101 a102 a103 a104 a105 a106 a107 a108 a109 a110 a111 a112 a113 a114 a115 a116 a117 a118 a119 a120 a121 a122 a123 a124 a125 a126 a127 a128 a129 a130 a131 a132 a133 a134 a135 a136 a137 a138 a139 a140 a141 a142 a143 a144 a145 a146 a147 a148 a149 a150 a151 a152 a153 a154 a155 a156 a157 a158 a159 a160 a161 a162 a163 a164 a165 a166 a167 a168 a169 a170 a171 a172 a173 a174 a175 a176 a177 a178 a179 a180 a181 a182 a183 a184 a185 a186 a187 a188 a189 a190 a191 a192 a193 a194 a195 a196 a197 a198 a199 a200 a201 a202 a203 a204 a205 a206 a207 a208 a209 a210 a211 a212 a213 a214 a215 a216 a217 a218 a219 a220 a221 a222 a223 a224 a225 a226 a227 a228 a229 a230 a231 a232 a233 a234 a235 a236 a237 a238 a239 a240 a241 a242 a243 a244 a245 a246 a247 a248 a249 a250 a251 a252 a253 a254 a255 a256 a257 a258 a259 a260 a261 a262 a263 a264 a265 a266 a267 a268 a269 a270 a271 a272 a273 a274 a275 a276 a277 a278 a279 a280 a281 a282 a283 a284 a285 a286 a287 a288 a289 a290 a291 a292 a293 a294 a295 : Value} (HX : Hid (RnT w k L b c1 c2 g S p Q v1 (.slice qp qn qc) s now wc)) (HT : Hid (0 ≤ now ∧ now ≤ 85899345920 ∧ 0 ≤ S.d ∧ S.d ≤ 1073741824)) (HSL : Hid (S.sl = .slice ps ns cs)) (HAS0 : Hid (TArg w (.slice ps ns cs) S.ts)) (HN : Hid (S.ts.length ≤ 64)) (hP : ∀ c (ax : Act) (kx : Option Nat) (vx : Value) (wx : World), Q0 (.panic c) (ax.put kx vx) wx → Q0 (.panic c) ax wx)
    (hQ : ∀ (z6 z23 z24 z25 z26 z27 z28 z29 z30 z31 z32 z144 z145 z146 z147 z148 z149 z150 z151 z152 z153 z154 z155 z156 z157 z158 z159 z160 z161 z162 z163 z164 z165 z166 z167 z168 z169 z170 z171 z172 z173 z174 z175 z176 z177 z178 z179 z180 z181 z182 z183 z184 z185 z186 z187 z188 z189 z190 z191 z192 z193 z194 z195 z196 z197 z198 z199 z200 z201 z202 z203 z204 z205 z206 z207 z208 z209 z210 z211 z212 z213 z214 z215 z216 z217 z218 z219 z220 z221 z222 z223 z224 z225 z226 z227 z228 z229 z230 z231 z232 z233 z234 z235 z236 z237 z238 z239 z240 z241 z242 z243 z244 z245 z246 z247 z248 z249 z250 z251 z252 z253 z254 z255 z256 z257 z258 z259 z260 z261 z262 z263 z264 z265 z266 z267 z268 z269 z270 z271 z272 z273 z274 z275 z276 z277 z278 z279 z280 z281 z282 z283 z284 z285 z286 z287 z288 z289 z290 z291 z292 z293 z294 nv fv wv : Value) (W : World), RnE w k L b c1 c2 g S now nv fv wv W → Q0 .normal ⟨#[a0, a1, a2, a3, a4, a5, z6, .pointer (some ⟨k, 0, none⟩), a8, a9, a10, a11, a12, a13, .pointer (some ⟨b, 0, none⟩), a15, nv, .pointer (some ⟨c1, 0, none⟩), .pointer (some ⟨c2, 0, none⟩), fv, wv, a21, .pointer (some ⟨g, 0, none⟩), z23, z24, z25, z26, z27, z28, z29, z30, z31, z32, a33, a34, a35, a36, a37, a38, a39, a40, a41, a42, a43, a44, a45, a46, a47, a48, a49, a50, a51, a52, a53, a54, a55, a56, a57, a58, a59, a60, a61, a62, a63, a64, a65, a66, a67, a68, a69, a70, a71, a72, a73, a74, a75, a76, a77, a78, a79, a80, a81, a82, a83, a84, a85, a86, a87, a88, a89, a90, a91, a92, a93, a94, a95, a96, a97, a98, a99, a100, a101, a102, a103, a104, a105, a106, a107, a108, a109, a110, a111, a112, a113, a114, a115, a116, a117, a118, a119, a120, a121, a122, a123, a124, a125, a126, a127, a128, a129, a130, a131, a132, a133, a134, a135, a136, a137, a138, a139, a140, a141, a142, a143, z144, z145, z146, z147, z148, z149, z150, z151, z152, z153, z154, z155, z156, z157, z158, z159, z160, z161, z162, z163, z164, z165, z166, z167, z168, z169, z170, z171, z172, z173, z174, z175, z176, z177, z178, z179, z180, z181, z182, z183, z184, z185, z186, z187, z188, z189, z190, z191, z192, z193, z194, z195, z196, z197, z198, z199, z200, z201, z202, z203, z204, z205, z206, z207, z208, z209, z210, z211, z212, z213, z214, z215, z216, z217, z218, z219, z220, z221, z222, z223, z224, z225, z226, z227, z228, z229, z230, z231, z232, z233, z234, z235, z236, z237, z238, z239, z240, z241, z242, z243, z244, z245, z246, z247, z248, z249, z250, z251, z252, z253, z254, z255, z256, z257, z258, z259, z260, z261, z262, z263, z264, z265, z266, z267, z268, z269, z270, z271, z272, z273, z274, z275, z276, z277, z278, z279, z280, z281, z282, z283, z284, z285, z286, z287, z288, z289, z290, z291, z292, z293, z294, a295], []⟩ W) :
    Code.wp Try.prog (partOf 25 0) Q0 ⟨#[a0, a1, a2, a3, a4, a5, a6, .pointer (some ⟨k, 0, none⟩), a8, a9, a10, a11, a12, a13, .pointer (some ⟨b, 0, none⟩), a15, .int .i64 now, .pointer (some ⟨c1, 0, none⟩), .pointer (some ⟨c2, 0, none⟩), .int .i64 Q.fr, .bool Q.wt, a21, .pointer (some ⟨g, 0, none⟩), a23, a24, a25, a26, a27, a28, a29, a30, a31, a32, a33, a34, a35, a36, a37, a38, a39, a40, a41, a42, a43, a44, a45, a46, a47, a48, a49, a50, a51, a52, a53, a54, a55, a56, a57, a58, a59, a60, a61, a62, a63, a64, a65, a66, a67, a68, a69, a70, a71, a72, a73, a74, a75, a76, a77, a78, a79, a80, a81, a82, a83, a84, a85, a86, a87, a88, a89, a90, a91, a92, a93, a94, a95, a96, a97, a98, a99, a100, a101, a102, a103, a104, a105, a106, a107, a108, a109, a110, a111, a112, a113, a114, a115, a116, a117, a118, a119, a120, a121, a122, a123, a124, a125, a126, a127, a128, a129, a130, a131, a132, a133, a134, a135, a136, a137, a138, a139, a140, a141, a142, a143, a144, a145, a146, a147, a148, a149, a150, a151, a152, a153, a154, a155, a156, a157, a158, a159, a160, a161, a162, a163, a164, a165, a166, a167, a168, a169, a170, a171, a172, a173, a174, a175, a176, a177, a178, a179, a180, a181, a182, a183, a184, a185, a186, a187, a188, a189, a190, a191, a192, a193, a194, a195, a196, a197, a198, a199, a200, a201, a202, a203, a204, a205, a206, a207, a208, a209, a210, a211, a212, a213, a214, a215, a216, a217, a218, a219, a220, a221, a222, a223, a224, a225, a226, a227, a228, a229, a230, a231, a232, a233, a234, a235, a236, a237, a238, a239, a240, a241, a242, a243, a244, a245, a246, a247, a248, a249, a250, a251, a252, a253, a254, a255, a256, a257, a258, a259, a260, a261, a262, a263, a264, a265, a266, a267, a268, a269, a270, a271, a272, a273, a274, a275, a276, a277, a278, a279, a280, a281, a282, a283, a284, a285, a286, a287, a288, a289, a290, a291, a292, a293, a294, a295], []⟩ wc := by
  have HK := Lib.hid hQ
  clear hQ
  conv => arg 2; whnf
  apply wp_seq_k
  intro K1 hK1
  refine rn_due25 HX ?_
  intro wv z144 z145 z146 z147 z148 z149 z150 W hq
  refine hK1 _ _ ?_
  obtain ⟨v1', rfl, hq⟩ := hq
  have e := lawT_fr Q now
  generalize lawT Q now = Q1 at *
  rw [← e]
  apply wp_seq_k
  intro K2 hK2
  refine rn_sw (Lib.hid hq) HT HSL HAS0 HN (fun cx ax kx vx wx hx => hP cx ax kx vx wx hx) ?_
  intro z23 z24 z25 z26 z27 z28 z29 z30 z31 z151 z152 z153 z154 z155 z156 z157 z158 z159 z160 z161 z162 z163 z164 z165 z166 z167 z168 z169 z170 z171 z172 z173 z174 z175 z176 z177 z178 z179 z180 z181 z182 z183 z184 z185 z186 z187 z188 z189 z190 z191 z192 z193 z194 z195 z196 z197 z198 z199 z200 z201 z202 z203 z204 z205 z206 z207 z208 z209 z210 z211 z212 z213 z214 z215 z216 z217 z218 z219 z220 z221 z222 z223 z224 z225 z226 z227 z228 z229 z230 z231 z232 z233 z234 z235 z236 z237 z238 z239 z240 z241 z242 z243 z244 z245 z246 z247 z248 z249 z250 z251 z252 z253 z254 z255 z256 z257 z258 z259 z260 z261 z262 z263 z264 z265 z266 z267 z268 z269 z270 z271 z272 z273 z274 nv fv wv W2 hr
  refine hK2 _ _ ?_
  have HR := Lib.hid hr
  obtain ⟨p2, Q2, u1, u2, s2, m, rfl, rfl, rfl, hm0, hm1, h2⟩ := hr
  refine rn_l3 (s := s2) (Lib.hid (fun c => rt_plen h2.rs.rt c)) (Lib.hid (fun c => rt_plost h2.rs.rt c)) (Lib.hid (fun c => rt_qlen h2.rs.rt c)) (Lib.hid (fun c => rt_qlost h2.rs.rt c)) ?_
  intro y6 y32 y275 y276 y277 y278 y279 y280 y281 y282 y283 y284 y285 y286 y287 y288 y289 y290 y291 y292 y293 y294
  exact HK.out _ _ _ _ _ _ _ _ _ _ _ _ _ _ _ _ _ _ _ _ _ _ _ _ _ _ _ _ _ _ _ _ _ _ _ _ _ _ _ _ _ _ _ _ _ _ _ _ _ _ _ _ _ _ _ _ _ _ _ _ _ _ _ _ _ _ _ _ _ _ _ _ _ _ _ _ _ _ _ _ _ _ _ _ _ _ _ _ _ _ _ _ _ _ _ _ _ _ _ _ _ _ _ _ _ _ _ _ _ _ _ _ _ _ _ _ _ _ _ _ _ _ _ _ _ _ _ _ _ _ _ _ _ _ _ _ _ _ _ _ _ _ _ _ _ _ _ _ _ _ _ _ _ _ _ _ _ _ _ _ _ _ _ _ _ W2 HR.out

end Go.Proofs.Ytlpijhopllhccaa
