/- LanesRuns in parts: a round of another kind. Written by gen_lnrun.py. -/
import Derived.Test.YtpgcadceljalpaaLnPartL
import Derived.Test.YtpgcadceljalpaaLnPartH
import Derived.Test.YtpgcadceljalpaaLnPartI
namespace Go.Proofs.Ytpgcadceljalpaa
open Go.RowKit Go.Joins Go.Deep

set_option maxRecDepth 1000000 in
set_option maxHeartbeats 16000000 in
theorem rn_r1 {w W : World} {b lb i m c4 ab ao nn cc : Nat} {kk cls id size : Int} {drop : Bool} {r l : Nat → Int} {L : List On} {s : LS} {F : Nat → Prop} {p4 : Option Addr} {a0 a3 a4 a6 a7 a8 a9 a10 a11 a15 a16 a17 a18 a19 a20 a21 a22 a23 a24 a25 a26 a27 a28 a29 a30 a31 a32 a33 a34 a35 a36 a37 a38 a39 a40 a41 a42 a43 a44 a45 a46 a47 a48 a49 a50 a51 a52 a53 a54 a55 a56 a57 a58 a59 a60 a61 a62 a63 a64 a65 a66 a67 a68 a69 a70 a71 a72 a73 a74 a75 a76 a77 a78 a79 a80 a81 a82 a83 a84 a85 a86 a87 a88 a89 a90 a91 a92 a93 a94 a95 a96 a97 a98 a99 a100 a101 a102 a103 a104 a105 a106 a107 a108 a109 a110 a111 a112 a113 a114 a115 a116 a117 a118 a119 a120 a121 a122 a123 a124 a125 a126 a127 a128 a129 a130 a131 a132 a133 a134 a135 a136 a137 a138 a139 a140 a141 a142 a143 a144 a145 a146 a147 a148 a149 a150 a151 a152 a153 a154 a155 a156 a157 a158 a159 a160 a161 a162 a163 a164 a165 a166 a167 a168 a169 a170 a171 a172 a173 a174 a175 a176 a177 a178 a179 a180 a181 a182 a183 a184 a185 a186 a187 a188 a189 a190 a191 a192 a193 a194 a195 a196 a197 a198 a199 a200 a201 a202 a203 a204 a205 a206 a207 a208 a209 a210 a211 a212 a213 a214 a215 a216 a217 a218 a219 a220 a221 a222 a223 a224 a225 a226 a227 a228 a229 a230 a231 a232 a233 a234 a235 a236 a237 a238 a239 a240 a241 a242 a243 a244 a245 a246 a247 a248 a249 a250 a251 a252 a253 a254 a255 a256 a257 a258 a259 a260 a261 a262 a263 a264 a265 a266 a267 a268 a269 a270 a271 a272 a273 a274 a275 a276 a277 a278 a279 a280 a281 a282 a283 a284 a285 a286 a287 a288 a289 a290 a291 a292 a293 a294 a295 a296 a297 a298 a299 a300 a301 a302 a303 a304 a305 a306 a307 a308 a309 a310 a311 a312 a313 a314 a315 a316 a317 a318 a319 a320 a321 a322 a323 a324 a325 a326 a327 a328 a329 a330 a331 a332 a333 a334 a335 a336 a337 a338 a339 a340 a341 a342 a343 a344 a345 a346 a347 a348 a349 a350 a351 a352 a353 a354 a355 a356 a357 a358 a359 a360 a361 a362 a363 a364 a365 a366 a367 a368 a369 a370 : Value} {Q0 : Exit → Act → World → Prop}
    (hR : St w b lb r i s L F (.slice p4 m c4) W) (hm : L.length = m) (hi : i < 100) (hn : i < nn) (hok : okR r 8) (q0 : W.cell? ⟨ab, ao + i * 13, none⟩ = some (.int .i64 kk)) (q1 : W.cell? ⟨ab, ao + i * 13 + 1, none⟩ = some (.int .i64 cls)) (q2 : W.cell? ⟨ab, ao + i * 13 + 2, none⟩ = some (.int .i64 id)) (q3 : W.cell? ⟨ab, ao + i * 13 + 3, none⟩ = some (.int .i64 size)) (q4 : W.cell? ⟨ab, ao + i * 13 + 4, none⟩ = some (.bool drop)) (q5 : W.cell? ⟨ab, ao + i * 13 + 5, none⟩ = some (.int .i64 (l 0))) (q6 : W.cell? ⟨ab, ao + i * 13 + 6, none⟩ = some (.int .i64 (l 1))) (q7 : W.cell? ⟨ab, ao + i * 13 + 7, none⟩ = some (.int .i64 (l 2))) (q8 : W.cell? ⟨ab, ao + i * 13 + 8, none⟩ = some (.int .i64 (l 3))) (q9 : W.cell? ⟨ab, ao + i * 13 + 9, none⟩ = some (.int .i64 (l 4))) (q10 : W.cell? ⟨ab, ao + i * 13 + 10, none⟩ = some (.int .i64 (l 5))) (q11 : W.cell? ⟨ab, ao + i * 13 + 11, none⟩ = some (.int .i64 (l 6))) (q12 : W.cell? ⟨ab, ao + i * 13 + 12, none⟩ = some (.int .i64 (l 7))) (hk : kk = 1)
    (hP : ∀ c (ax : Act) (kx : Option Nat) (vx : Value) (wx : World), Q0 (.panic c) (ax.put kx vx) wx → Q0 (.panic c) ax wx)
    (hQ : ∀ (z4 z15 z16 z17 z18 z19 z20 z21 z22 z23 z24 z25 z26 z27 z28 z29 z30 z31 z102 z103 z104 z105 z106 z107 z108 z109 z110 z111 z112 z113 z114 z115 z116 z117 z118 z119 z120 z121 z122 z123 z124 z125 z126 z127 z128 z129 z130 z131 z132 z133 z134 z135 z136 z137 z138 z139 z140 z141 z142 z143 z144 z145 z146 z147 z148 z149 z150 z151 z152 z153 z154 z155 z156 z157 z158 z159 z160 z161 z162 z163 z164 z165 z166 z167 z168 z169 z170 z171 z172 z173 z174 z175 z176 z177 z178 z179 z180 z181 z182 z183 z184 z185 z186 z187 z188 z189 z190 z191 z192 z193 z194 z195 z196 z197 z198 z199 z200 z201 z202 z203 z204 z205 z206 z207 z208 z209 z210 z211 z212 z213 z214 z215 z216 z217 z218 z219 z220 z221 z222 z223 z224 z225 z226 z227 z228 z229 z230 z231 z232 z233 z234 z235 z236 z237 z238 z239 z240 z241 z242 z243 z244 z245 z246 z247 z248 z249 z250 z251 z252 z253 z254 z255 z256 z257 z258 z259 z260 z261 z262 z263 z264 z265 z266 z267 z268 z269 z270 z271 z272 z273 z274 z275 z276 z277 z278 z279 z280 z281 z282 z283 z284 z285 z286 z287 z288 z289 z290 z291 z292 z293 z294 z295 z296 z297 z298 z299 z300 z301 z302 z303 z304 z305 z306 z307 z308 z309 z310 z311 z312 z313 z314 z315 z316 z317 z318 z319 z320 z321 z322 z323 z324 z325 z326 z327 z328 z329 z330 z331 z332 z333 z334 z335 z336 z337 z338 z339 z340 z341 z342 z343 z344 z345 z346 z347 z348 z349 z350 z351 z352 z353 z354 z355 z356 z357 z358 z359 z360 z361 z362 z363 z364 z365 z366 z367 z368 z369 z370 : Value) (s' : LS) (L' : List On) (F' : Nat → Prop) (p' : Option Addr) (m' c' : Nat) (W' : World), St w b lb r (i + 1) s' L' F' (.slice p' m' c') W' → L'.length = m' → Q0 .normal ⟨#[a0, .slice (some ⟨ab, ao, none⟩) nn cc, .pointer (some ⟨w.heap.size, 0, none⟩), a3, z4, .pointer (some ⟨b, 0, none⟩), a6, a7, a8, a9, a10, a11, (.slice p' m' c'), .pointer (some ⟨lb, 0, none⟩), .int .i64 (i : Int), z15, z16, z17, z18, z19, z20, z21, z22, z23, z24, z25, z26, z27, z28, z29, z30, z31, a32, a33, a34, a35, a36, a37, a38, a39, a40, a41, a42, a43, a44, a45, a46, a47, a48, a49, a50, a51, a52, a53, a54, a55, a56, a57, a58, a59, a60, a61, a62, a63, a64, a65, a66, a67, a68, a69, a70, a71, a72, a73, a74, a75, a76, a77, a78, a79, a80, a81, a82, a83, a84, a85, a86, a87, a88, a89, a90, a91, a92, a93, a94, a95, a96, a97, a98, a99, a100, a101, z102, z103, z104, z105, z106, z107, z108, z109, z110, z111, z112, z113, z114, z115, z116, z117, z118, z119, z120, z121, z122, z123, z124, z125, z126, z127, z128, z129, z130, z131, z132, z133, z134, z135, z136, z137, z138, z139, z140, z141, z142, z143, z144, z145, z146, z147, z148, z149, z150, z151, z152, z153, z154, z155, z156, z157, z158, z159, z160, z161, z162, z163, z164, z165, z166, z167, z168, z169, z170, z171, z172, z173, z174, z175, z176, z177, z178, z179, z180, z181, z182, z183, z184, z185, z186, z187, z188, z189, z190, z191, z192, z193, z194, z195, z196, z197, z198, z199, z200, z201, z202, z203, z204, z205, z206, z207, z208, z209, z210, z211, z212, z213, z214, z215, z216, z217, z218, z219, z220, z221, z222, z223, z224, z225, z226, z227, z228, z229, z230, z231, z232, z233, z234, z235, z236, z237, z238, z239, z240, z241, z242, z243, z244, z245, z246, z247, z248, z249, z250, z251, z252, z253, z254, z255, z256, z257, z258, z259, z260, z261, z262, z263, z264, z265, z266, z267, z268, z269, z270, z271, z272, z273, z274, z275, z276, z277, z278, z279, z280, z281, z282, z283, z284, z285, z286, z287, z288, z289, z290, z291, z292, z293, z294, z295, z296, z297, z298, z299, z300, z301, z302, z303, z304, z305, z306, z307, z308, z309, z310, z311, z312, z313, z314, z315, z316, z317, z318, z319, z320, z321, z322, z323, z324, z325, z326, z327, z328, z329, z330, z331, z332, z333, z334, z335, z336, z337, z338, z339, z340, z341, z342, z343, z344, z345, z346, z347, z348, z349, z350, z351, z352, z353, z354, z355, z356, z357, z358, z359, z360, z361, z362, z363, z364, z365, z366, z367, z368, z369, z370], []⟩ W') :
    Code.wp Try.prog (partOf 18 1) Q0 ⟨#[a0, .slice (some ⟨ab, ao, none⟩) nn cc, .pointer (some ⟨w.heap.size, 0, none⟩), a3, a4, .pointer (some ⟨b, 0, none⟩), a6, a7, a8, a9, a10, a11, .slice p4 m c4, .pointer (some ⟨lb, 0, none⟩), .int .i64 (i : Int), a15, a16, a17, a18, a19, a20, a21, a22, a23, a24, a25, a26, a27, a28, a29, a30, a31, a32, a33, a34, a35, a36, a37, a38, a39, a40, a41, a42, a43, a44, a45, a46, a47, a48, a49, a50, a51, a52, a53, a54, a55, a56, a57, a58, a59, a60, a61, a62, a63, a64, a65, a66, a67, a68, a69, a70, a71, a72, a73, a74, a75, a76, a77, a78, a79, a80, a81, a82, a83, a84, a85, a86, a87, a88, a89, a90, a91, a92, a93, a94, a95, a96, a97, a98, a99, a100, a101, a102, a103, a104, a105, a106, a107, a108, a109, a110, a111, a112, a113, a114, a115, a116, a117, a118, a119, a120, a121, a122, a123, a124, a125, a126, a127, a128, a129, a130, a131, a132, a133, a134, a135, a136, a137, a138, a139, a140, a141, a142, a143, a144, a145, a146, a147, a148, a149, a150, a151, a152, a153, a154, a155, a156, a157, a158, a159, a160, a161, a162, a163, a164, a165, a166, a167, a168, a169, a170, a171, a172, a173, a174, a175, a176, a177, a178, a179, a180, a181, a182, a183, a184, a185, a186, a187, a188, a189, a190, a191, a192, a193, a194, a195, a196, a197, a198, a199, a200, a201, a202, a203, a204, a205, a206, a207, a208, a209, a210, a211, a212, a213, a214, a215, a216, a217, a218, a219, a220, a221, a222, a223, a224, a225, a226, a227, a228, a229, a230, a231, a232, a233, a234, a235, a236, a237, a238, a239, a240, a241, a242, a243, a244, a245, a246, a247, a248, a249, a250, a251, a252, a253, a254, a255, a256, a257, a258, a259, a260, a261, a262, a263, a264, a265, a266, a267, a268, a269, a270, a271, a272, a273, a274, a275, a276, a277, a278, a279, a280, a281, a282, a283, a284, a285, a286, a287, a288, a289, a290, a291, a292, a293, a294, a295, a296, a297, a298, a299, a300, a301, a302, a303, a304, a305, a306, a307, a308, a309, a310, a311, a312, a313, a314, a315, a316, a317, a318, a319, a320, a321, a322, a323, a324, a325, a326, a327, a328, a329, a330, a331, a332, a333, a334, a335, a336, a337, a338, a339, a340, a341, a342, a343, a344, a345, a346, a347, a348, a349, a350, a351, a352, a353, a354, a355, a356, a357, a358, a359, a360, a361, a362, a363, a364, a365, a366, a367, a368, a369, a370], []⟩ W := by
  replace hQ := Lib.hid hQ
  have HK := Lib.hid hk
  clear hk
  have HM := Lib.hid hm
  have HI := Lib.hid hi
  have HOK := Lib.hid hok
  have hR0 := hR.below (bAl (bRef W) (.cells #[.int .i64 kk, .int .i64 cls, .int .i64 id, .int .i64 size, .bool drop, .int .i64 (l 0), .int .i64 (l 1), .int .i64 (l 2), .int .i64 (l 3), .int .i64 (l 4), .int .i64 (l 5), .int .i64 (l 6), .int .i64 (l 7)] 39 (0, 0)))
  have HR := Lib.hid hR0
  have hsb0 : ¬ F W.heap.size := fun f => by have := hR.st.ln.ln.top.2 _ f; omega
  have HSB := Lib.hid hsb0
  have hO0 : StepB (W.alloc (.cells #[.int .i64 kk, .int .i64 cls, .int .i64 id, .int .i64 size, .bool drop, .int .i64 (l 0), .int .i64 (l 1), .int .i64 (l 2), .int .i64 (l 3), .int .i64 (l 4), .int .i64 (l 5), .int .i64 (l 6), .int .i64 (l 7)] 39 (0, 0))) W.heap.size kk cls id size drop l := heap_alloc_new W _
  have HO := Lib.hid hO0
  have HP := Lib.hid hP
  have hm2 : m ≤ 100 := by have := hR.ln; omega
  have HM2 := Lib.hid hm2
  have ei : IntKind.i64.wrap (i : Int) = (i : Int) := by rw [IntKind.wrap_i64]; omega
  have dn : decide ((i : Int) < (nn : Int)) = true := decide_eq_true (by omega)
  clear hm hok hR hR0 hsb0 hO0 hP hm2
  conv => arg 2; whnf
  go_step
  apply wp_seq_k
  intro KA hKA
  have HKA := Lib.hid hKA
  clear hKA
  go_wp2_with fail
  refine HKA.out _ _ ?_
  clear q0 q1 q2 q3 q4 q5 q6 q7 q8 q9 q10 q11 q12 ei dn hn hi
  apply wp_seq_k
  intro KB hKB
  have HKB := Lib.hid hKB
  clear hKB
  go_wp2_with fail
  refine HKB.out _ _ ?_
  apply wp_seq_k
  intro KC hKC
  have HKC := Lib.hid hKC
  clear hKC
  go_wp2_with fail
  refine HKC.out _ _ ?_
  apply wp_seq_k
  intro KD hKD
  refine rn_count HR.out.st.row HM.out HM2.out HO.out ?_
  intro z18 z19 z106 z107 z108 z109 z110 z111 z112 z113 z114 z115 z116 z117 z118 z119 z120 z121 z122 z123 n fv W1 hcn hfv hb1
  refine hKD _ _ ?_
  have HR1 := Lib.hid (HR.out.below hb1)
  have HO1 := Lib.hid (HO.out.below hb1)
  have o0 : W1.cell? ⟨W.heap.size, 0, none⟩ = some (.int .i64 kk) := cell_of_row _ _ _ _ _ _ HO1.out
  have HCN := Lib.hid hcn
  have HFV := Lib.hid hfv
  clear hKD hb1 hcn hfv
  apply wp_seq_k
  intro KR hKR
  have HKR := Lib.hid hKR
  clear hKR
  have hk := HK.out
  subst hk
  go_upto_if 126 with (fail)
  refine wp_cond_false (by go_simp) ?_
  go_upto_if 197 with (fail)
  refine wp_cond_true (by go_simp) ?_
  refine rn_pick HR1.out HM.out HI.out HO1.out HSB.out ?_ (fun cx ax kx vx wx hx => HP.out cx ax kx vx wx hx) ?_
  · intro z4 z21 z22 z23 z24 z25 z26 z27 z199 z200 z201 z202 z203 z204 z205 z206 z207 z208 z209 z210 z211 z212 z213 z214 z215 z216 z217 z218 z219 z220 z221 z222 z223 z224 z225 z226 z227 z228 z229 z230 z231 z232 z233 z234 z235 z236 z237 z238 z239 z240 z241 z242 z243 z244 z245 z246 z247 z248 z249 z250 z251 z252 z253 z254 z255 z256 z257 z258 z259 z260 z261 z262 z263 z264 z265 z266 z267 z268 z269 z270 z271 z272 z273 z274 z275 z276 z277 z278 z279 z280 z281 z282 z283 z284 z285 z286 z287 z288 z289 z290 z291 z292 F' W2 hst
    have HST := Lib.hid hst
    clear hst o0
    go_wp2_with fail
    refine HKR.out _ _ ?_
    refine rn_tail (HST.out) HM.out (by have := HI.out; omega) (fun cx ax kx vx wx hx => HP.out cx ax kx vx wx hx) ?_
    intro z4 z30 z31 z334 z335 z336 z337 z338 z339 z340 z341 z342 z343 z344 z345 z346 z347 z348 z349 z350 z351 z352 z353 z354 z355 z356 z357 z358 z359 z360 z361 z362 z363 z364 z365 z366 z367 z368 z369 z370 W9 hb9
    exact hQ.out _ _ _ _ _ _ _ _ _ _ _ _ _ _ _ _ _ _ _ _ _ _ _ _ _ _ _ _ _ _ _ _ _ _ _ _ _ _ _ _ _ _ _ _ _ _ _ _ _ _ _ _ _ _ _ _ _ _ _ _ _ _ _ _ _ _ _ _ _ _ _ _ _ _ _ _ _ _ _ _ _ _ _ _ _ _ _ _ _ _ _ _ _ _ _ _ _ _ _ _ _ _ _ _ _ _ _ _ _ _ _ _ _ _ _ _ _ _ _ _ _ _ _ _ _ _ _ _ _ _ _ _ _ _ _ _ _ _ _ _ _ _ _ _ _ _ _ _ _ _ _ _ _ _ _ _ _ _ _ _ _ _ _ _ _ _ _ _ _ _ _ _ _ _ _ _ _ _ _ _ _ _ _ _ _ _ _ _ _ _ _ _ _ _ _ _ _ _ _ _ _ _ _ _ _ _ _ _ _ _ _ _ _ _ _ _ _ _ _ _ _ _ _ _ _ _ _ _ _ _ _ _ _ _ _ _ _ _ _ _ _ _ _ _ _ _ _ _ _ _ _ _ _ _ _ _ _ _ _ _ _ _ _ _ _ _ _ _ _ _ _ _ _ _ _ _ _ _ _ _ _ _ _ _ _ _ _ _ _ _ _ _ _ _ ((HST.out).below hb9) HM.out
  · intro z4 z21 z22 z23 z24 z25 z26 z27 z199 z200 z201 z202 z203 z204 z205 z206 z207 z208 z209 z210 z211 z212 z213 z214 z215 z216 z217 z218 z219 z220 z221 z222 z223 z224 z225 z226 z227 z228 z229 z230 z231 z232 z233 z234 z235 z236 z237 z238 z239 z240 z241 z242 z243 z244 z245 z246 z247 z248 z249 z250 z251 z252 z253 z254 z255 z256 z257 z258 z259 z260 z261 z262 z263 z264 z265 z266 z267 z268 z269 z270 z271 z272 z273 z274 z275 z276 z277 z278 z279 z280 z281 z282 z283 z284 z285 z286 z287 z288 z289 z290 z291 z292 s' L' F' p' m' c' W2 hst hl
    have HST := Lib.hid hst
    have HL := Lib.hid hl
    clear hst hl o0
    go_wp2_with fail
    refine HKR.out _ _ ?_
    refine rn_tail (HST.out) HL.out (by have := HI.out; omega) (fun cx ax kx vx wx hx => HP.out cx ax kx vx wx hx) ?_
    intro z4 z30 z31 z334 z335 z336 z337 z338 z339 z340 z341 z342 z343 z344 z345 z346 z347 z348 z349 z350 z351 z352 z353 z354 z355 z356 z357 z358 z359 z360 z361 z362 z363 z364 z365 z366 z367 z368 z369 z370 W9 hb9
    exact hQ.out _ _ _ _ _ _ _ _ _ _ _ _ _ _ _ _ _ _ _ _ _ _ _ _ _ _ _ _ _ _ _ _ _ _ _ _ _ _ _ _ _ _ _ _ _ _ _ _ _ _ _ _ _ _ _ _ _ _ _ _ _ _ _ _ _ _ _ _ _ _ _ _ _ _ _ _ _ _ _ _ _ _ _ _ _ _ _ _ _ _ _ _ _ _ _ _ _ _ _ _ _ _ _ _ _ _ _ _ _ _ _ _ _ _ _ _ _ _ _ _ _ _ _ _ _ _ _ _ _ _ _ _ _ _ _ _ _ _ _ _ _ _ _ _ _ _ _ _ _ _ _ _ _ _ _ _ _ _ _ _ _ _ _ _ _ _ _ _ _ _ _ _ _ _ _ _ _ _ _ _ _ _ _ _ _ _ _ _ _ _ _ _ _ _ _ _ _ _ _ _ _ _ _ _ _ _ _ _ _ _ _ _ _ _ _ _ _ _ _ _ _ _ _ _ _ _ _ _ _ _ _ _ _ _ _ _ _ _ _ _ _ _ _ _ _ _ _ _ _ _ _ _ _ _ _ _ _ _ _ _ _ _ _ _ _ _ _ _ _ _ _ _ _ _ _ _ _ _ _ _ _ _ _ _ _ _ _ _ _ _ _ _ _ _ ((HST.out).below hb9) HL.out

set_option maxRecDepth 1000000 in
set_option maxHeartbeats 16000000 in
theorem rn_r2 {w W : World} {b lb i m c4 ab ao nn cc : Nat} {kk cls id size : Int} {drop : Bool} {r l : Nat → Int} {L : List On} {s : LS} {F : Nat → Prop} {p4 : Option Addr} {a0 a3 a4 a6 a7 a8 a9 a10 a11 a15 a16 a17 a18 a19 a20 a21 a22 a23 a24 a25 a26 a27 a28 a29 a30 a31 a32 a33 a34 a35 a36 a37 a38 a39 a40 a41 a42 a43 a44 a45 a46 a47 a48 a49 a50 a51 a52 a53 a54 a55 a56 a57 a58 a59 a60 a61 a62 a63 a64 a65 a66 a67 a68 a69 a70 a71 a72 a73 a74 a75 a76 a77 a78 a79 a80 a81 a82 a83 a84 a85 a86 a87 a88 a89 a90 a91 a92 a93 a94 a95 a96 a97 a98 a99 a100 a101 a102 a103 a104 a105 a106 a107 a108 a109 a110 a111 a112 a113 a114 a115 a116 a117 a118 a119 a120 a121 a122 a123 a124 a125 a126 a127 a128 a129 a130 a131 a132 a133 a134 a135 a136 a137 a138 a139 a140 a141 a142 a143 a144 a145 a146 a147 a148 a149 a150 a151 a152 a153 a154 a155 a156 a157 a158 a159 a160 a161 a162 a163 a164 a165 a166 a167 a168 a169 a170 a171 a172 a173 a174 a175 a176 a177 a178 a179 a180 a181 a182 a183 a184 a185 a186 a187 a188 a189 a190 a191 a192 a193 a194 a195 a196 a197 a198 a199 a200 a201 a202 a203 a204 a205 a206 a207 a208 a209 a210 a211 a212 a213 a214 a215 a216 a217 a218 a219 a220 a221 a222 a223 a224 a225 a226 a227 a228 a229 a230 a231 a232 a233 a234 a235 a236 a237 a238 a239 a240 a241 a242 a243 a244 a245 a246 a247 a248 a249 a250 a251 a252 a253 a254 a255 a256 a257 a258 a259 a260 a261 a262 a263 a264 a265 a266 a267 a268 a269 a270 a271 a272 a273 a274 a275 a276 a277 a278 a279 a280 a281 a282 a283 a284 a285 a286 a287 a288 a289 a290 a291 a292 a293 a294 a295 a296 a297 a298 a299 a300 a301 a302 a303 a304 a305 a306 a307 a308 a309 a310 a311 a312 a313 a314 a315 a316 a317 a318 a319 a320 a321 a322 a323 a324 a325 a326 a327 a328 a329 a330 a331 a332 a333 a334 a335 a336 a337 a338 a339 a340 a341 a342 a343 a344 a345 a346 a347 a348 a349 a350 a351 a352 a353 a354 a355 a356 a357 a358 a359 a360 a361 a362 a363 a364 a365 a366 a367 a368 a369 a370 : Value} {Q0 : Exit → Act → World → Prop}
    (hR : St w b lb r i s L F (.slice p4 m c4) W) (hm : L.length = m) (hi : i < 100) (hn : i < nn) (hok : okR r 8) (q0 : W.cell? ⟨ab, ao + i * 13, none⟩ = some (.int .i64 kk)) (q1 : W.cell? ⟨ab, ao + i * 13 + 1, none⟩ = some (.int .i64 cls)) (q2 : W.cell? ⟨ab, ao + i * 13 + 2, none⟩ = some (.int .i64 id)) (q3 : W.cell? ⟨ab, ao + i * 13 + 3, none⟩ = some (.int .i64 size)) (q4 : W.cell? ⟨ab, ao + i * 13 + 4, none⟩ = some (.bool drop)) (q5 : W.cell? ⟨ab, ao + i * 13 + 5, none⟩ = some (.int .i64 (l 0))) (q6 : W.cell? ⟨ab, ao + i * 13 + 6, none⟩ = some (.int .i64 (l 1))) (q7 : W.cell? ⟨ab, ao + i * 13 + 7, none⟩ = some (.int .i64 (l 2))) (q8 : W.cell? ⟨ab, ao + i * 13 + 8, none⟩ = some (.int .i64 (l 3))) (q9 : W.cell? ⟨ab, ao + i * 13 + 9, none⟩ = some (.int .i64 (l 4))) (q10 : W.cell? ⟨ab, ao + i * 13 + 10, none⟩ = some (.int .i64 (l 5))) (q11 : W.cell? ⟨ab, ao + i * 13 + 11, none⟩ = some (.int .i64 (l 6))) (q12 : W.cell? ⟨ab, ao + i * 13 + 12, none⟩ = some (.int .i64 (l 7))) (hk : kk = 2)
    (hP : ∀ c (ax : Act) (kx : Option Nat) (vx : Value) (wx : World), Q0 (.panic c) (ax.put kx vx) wx → Q0 (.panic c) ax wx)
    (hQ : ∀ (z4 z15 z16 z17 z18 z19 z20 z21 z22 z23 z24 z25 z26 z27 z28 z29 z30 z31 z102 z103 z104 z105 z106 z107 z108 z109 z110 z111 z112 z113 z114 z115 z116 z117 z118 z119 z120 z121 z122 z123 z124 z125 z126 z127 z128 z129 z130 z131 z132 z133 z134 z135 z136 z137 z138 z139 z140 z141 z142 z143 z144 z145 z146 z147 z148 z149 z150 z151 z152 z153 z154 z155 z156 z157 z158 z159 z160 z161 z162 z163 z164 z165 z166 z167 z168 z169 z170 z171 z172 z173 z174 z175 z176 z177 z178 z179 z180 z181 z182 z183 z184 z185 z186 z187 z188 z189 z190 z191 z192 z193 z194 z195 z196 z197 z198 z199 z200 z201 z202 z203 z204 z205 z206 z207 z208 z209 z210 z211 z212 z213 z214 z215 z216 z217 z218 z219 z220 z221 z222 z223 z224 z225 z226 z227 z228 z229 z230 z231 z232 z233 z234 z235 z236 z237 z238 z239 z240 z241 z242 z243 z244 z245 z246 z247 z248 z249 z250 z251 z252 z253 z254 z255 z256 z257 z258 z259 z260 z261 z262 z263 z264 z265 z266 z267 z268 z269 z270 z271 z272 z273 z274 z275 z276 z277 z278 z279 z280 z281 z282 z283 z284 z285 z286 z287 z288 z289 z290 z291 z292 z293 z294 z295 z296 z297 z298 z299 z300 z301 z302 z303 z304 z305 z306 z307 z308 z309 z310 z311 z312 z313 z314 z315 z316 z317 z318 z319 z320 z321 z322 z323 z324 z325 z326 z327 z328 z329 z330 z331 z332 z333 z334 z335 z336 z337 z338 z339 z340 z341 z342 z343 z344 z345 z346 z347 z348 z349 z350 z351 z352 z353 z354 z355 z356 z357 z358 z359 z360 z361 z362 z363 z364 z365 z366 z367 z368 z369 z370 : Value) (s' : LS) (L' : List On) (F' : Nat → Prop) (p' : Option Addr) (m' c' : Nat) (W' : World), St w b lb r (i + 1) s' L' F' (.slice p' m' c') W' → L'.length = m' → Q0 .normal ⟨#[a0, .slice (some ⟨ab, ao, none⟩) nn cc, .pointer (some ⟨w.heap.size, 0, none⟩), a3, z4, .pointer (some ⟨b, 0, none⟩), a6, a7, a8, a9, a10, a11, (.slice p' m' c'), .pointer (some ⟨lb, 0, none⟩), .int .i64 (i : Int), z15, z16, z17, z18, z19, z20, z21, z22, z23, z24, z25, z26, z27, z28, z29, z30, z31, a32, a33, a34, a35, a36, a37, a38, a39, a40, a41, a42, a43, a44, a45, a46, a47, a48, a49, a50, a51, a52, a53, a54, a55, a56, a57, a58, a59, a60, a61, a62, a63, a64, a65, a66, a67, a68, a69, a70, a71, a72, a73, a74, a75, a76, a77, a78, a79, a80, a81, a82, a83, a84, a85, a86, a87, a88, a89, a90, a91, a92, a93, a94, a95, a96, a97, a98, a99, a100, a101, z102, z103, z104, z105, z106, z107, z108, z109, z110, z111, z112, z113, z114, z115, z116, z117, z118, z119, z120, z121, z122, z123, z124, z125, z126, z127, z128, z129, z130, z131, z132, z133, z134, z135, z136, z137, z138, z139, z140, z141, z142, z143, z144, z145, z146, z147, z148, z149, z150, z151, z152, z153, z154, z155, z156, z157, z158, z159, z160, z161, z162, z163, z164, z165, z166, z167, z168, z169, z170, z171, z172, z173, z174, z175, z176, z177, z178, z179, z180, z181, z182, z183, z184, z185, z186, z187, z188, z189, z190, z191, z192, z193, z194, z195, z196, z197, z198, z199, z200, z201, z202, z203, z204, z205, z206, z207, z208, z209, z210, z211, z212, z213, z214, z215, z216, z217, z218, z219, z220, z221, z222, z223, z224, z225, z226, z227, z228, z229, z230, z231, z232, z233, z234, z235, z236, z237, z238, z239, z240, z241, z242, z243, z244, z245, z246, z247, z248, z249, z250, z251, z252, z253, z254, z255, z256, z257, z258, z259, z260, z261, z262, z263, z264, z265, z266, z267, z268, z269, z270, z271, z272, z273, z274, z275, z276, z277, z278, z279, z280, z281, z282, z283, z284, z285, z286, z287, z288, z289, z290, z291, z292, z293, z294, z295, z296, z297, z298, z299, z300, z301, z302, z303, z304, z305, z306, z307, z308, z309, z310, z311, z312, z313, z314, z315, z316, z317, z318, z319, z320, z321, z322, z323, z324, z325, z326, z327, z328, z329, z330, z331, z332, z333, z334, z335, z336, z337, z338, z339, z340, z341, z342, z343, z344, z345, z346, z347, z348, z349, z350, z351, z352, z353, z354, z355, z356, z357, z358, z359, z360, z361, z362, z363, z364, z365, z366, z367, z368, z369, z370], []⟩ W') :
    Code.wp Try.prog (partOf 18 1) Q0 ⟨#[a0, .slice (some ⟨ab, ao, none⟩) nn cc, .pointer (some ⟨w.heap.size, 0, none⟩), a3, a4, .pointer (some ⟨b, 0, none⟩), a6, a7, a8, a9, a10, a11, .slice p4 m c4, .pointer (some ⟨lb, 0, none⟩), .int .i64 (i : Int), a15, a16, a17, a18, a19, a20, a21, a22, a23, a24, a25, a26, a27, a28, a29, a30, a31, a32, a33, a34, a35, a36, a37, a38, a39, a40, a41, a42, a43, a44, a45, a46, a47, a48, a49, a50, a51, a52, a53, a54, a55, a56, a57, a58, a59, a60, a61, a62, a63, a64, a65, a66, a67, a68, a69, a70, a71, a72, a73, a74, a75, a76, a77, a78, a79, a80, a81, a82, a83, a84, a85, a86, a87, a88, a89, a90, a91, a92, a93, a94, a95, a96, a97, a98, a99, a100, a101, a102, a103, a104, a105, a106, a107, a108, a109, a110, a111, a112, a113, a114, a115, a116, a117, a118, a119, a120, a121, a122, a123, a124, a125, a126, a127, a128, a129, a130, a131, a132, a133, a134, a135, a136, a137, a138, a139, a140, a141, a142, a143, a144, a145, a146, a147, a148, a149, a150, a151, a152, a153, a154, a155, a156, a157, a158, a159, a160, a161, a162, a163, a164, a165, a166, a167, a168, a169, a170, a171, a172, a173, a174, a175, a176, a177, a178, a179, a180, a181, a182, a183, a184, a185, a186, a187, a188, a189, a190, a191, a192, a193, a194, a195, a196, a197, a198, a199, a200, a201, a202, a203, a204, a205, a206, a207, a208, a209, a210, a211, a212, a213, a214, a215, a216, a217, a218, a219, a220, a221, a222, a223, a224, a225, a226, a227, a228, a229, a230, a231, a232, a233, a234, a235, a236, a237, a238, a239, a240, a241, a242, a243, a244, a245, a246, a247, a248, a249, a250, a251, a252, a253, a254, a255, a256, a257, a258, a259, a260, a261, a262, a263, a264, a265, a266, a267, a268, a269, a270, a271, a272, a273, a274, a275, a276, a277, a278, a279, a280, a281, a282, a283, a284, a285, a286, a287, a288, a289, a290, a291, a292, a293, a294, a295, a296, a297, a298, a299, a300, a301, a302, a303, a304, a305, a306, a307, a308, a309, a310, a311, a312, a313, a314, a315, a316, a317, a318, a319, a320, a321, a322, a323, a324, a325, a326, a327, a328, a329, a330, a331, a332, a333, a334, a335, a336, a337, a338, a339, a340, a341, a342, a343, a344, a345, a346, a347, a348, a349, a350, a351, a352, a353, a354, a355, a356, a357, a358, a359, a360, a361, a362, a363, a364, a365, a366, a367, a368, a369, a370], []⟩ W := by
  replace hQ := Lib.hid hQ
  have HK := Lib.hid hk
  clear hk
  have HM := Lib.hid hm
  have HI := Lib.hid hi
  have HOK := Lib.hid hok
  have hR0 := hR.below (bAl (bRef W) (.cells #[.int .i64 kk, .int .i64 cls, .int .i64 id, .int .i64 size, .bool drop, .int .i64 (l 0), .int .i64 (l 1), .int .i64 (l 2), .int .i64 (l 3), .int .i64 (l 4), .int .i64 (l 5), .int .i64 (l 6), .int .i64 (l 7)] 39 (0, 0)))
  have HR := Lib.hid hR0
  have hsb0 : ¬ F W.heap.size := fun f => by have := hR.st.ln.ln.top.2 _ f; omega
  have HSB := Lib.hid hsb0
  have hO0 : StepB (W.alloc (.cells #[.int .i64 kk, .int .i64 cls, .int .i64 id, .int .i64 size, .bool drop, .int .i64 (l 0), .int .i64 (l 1), .int .i64 (l 2), .int .i64 (l 3), .int .i64 (l 4), .int .i64 (l 5), .int .i64 (l 6), .int .i64 (l 7)] 39 (0, 0))) W.heap.size kk cls id size drop l := heap_alloc_new W _
  have HO := Lib.hid hO0
  have HP := Lib.hid hP
  have hm2 : m ≤ 100 := by have := hR.ln; omega
  have HM2 := Lib.hid hm2
  have ei : IntKind.i64.wrap (i : Int) = (i : Int) := by rw [IntKind.wrap_i64]; omega
  have dn : decide ((i : Int) < (nn : Int)) = true := decide_eq_true (by omega)
  clear hm hok hR hR0 hsb0 hO0 hP hm2
  conv => arg 2; whnf
  go_step
  apply wp_seq_k
  intro KA hKA
  have HKA := Lib.hid hKA
  clear hKA
  go_wp2_with fail
  refine HKA.out _ _ ?_
  clear q0 q1 q2 q3 q4 q5 q6 q7 q8 q9 q10 q11 q12 ei dn hn hi
  apply wp_seq_k
  intro KB hKB
  have HKB := Lib.hid hKB
  clear hKB
  go_wp2_with fail
  refine HKB.out _ _ ?_
  apply wp_seq_k
  intro KC hKC
  have HKC := Lib.hid hKC
  clear hKC
  go_wp2_with fail
  refine HKC.out _ _ ?_
  apply wp_seq_k
  intro KD hKD
  refine rn_count HR.out.st.row HM.out HM2.out HO.out ?_
  intro z18 z19 z106 z107 z108 z109 z110 z111 z112 z113 z114 z115 z116 z117 z118 z119 z120 z121 z122 z123 n fv W1 hcn hfv hb1
  refine hKD _ _ ?_
  have HR1 := Lib.hid (HR.out.below hb1)
  have HO1 := Lib.hid (HO.out.below hb1)
  have o0 : W1.cell? ⟨W.heap.size, 0, none⟩ = some (.int .i64 kk) := cell_of_row _ _ _ _ _ _ HO1.out
  have HCN := Lib.hid hcn
  have HFV := Lib.hid hfv
  clear hKD hb1 hcn hfv
  apply wp_seq_k
  intro KR hKR
  have HKR := Lib.hid hKR
  clear hKR
  have hk := HK.out
  subst hk
  go_upto_if 126 with (fail)
  refine wp_cond_false (by go_simp) ?_
  go_upto_if 197 with (fail)
  refine wp_cond_false (by go_simp) ?_
  go_upto_if 293 with (fail)
  refine wp_cond_true (by go_simp) ?_
  refine rn_head HR1.out HM.out HI.out HO1.out HSB.out HFV.out (fun cx ax kx vx wx hx => HP.out cx ax kx vx wx hx) ?_
  intro z4 z28 z29 z295 z296 z297 z298 z299 z300 z301 z302 z303 z304 z305 z306 z307 z308 z309 z310 z311 z312 z313 z314 z315 z316 z317 z318 z319 z320 z321 z322 z323 z324 z325 z326 W2 hst
  have HST := Lib.hid hst
  clear hst o0
  go_wp2_with fail
  refine HKR.out _ _ ?_
  refine rn_tail (HST.out) HM.out (by have := HI.out; omega) (fun cx ax kx vx wx hx => HP.out cx ax kx vx wx hx) ?_
  intro z4 z30 z31 z334 z335 z336 z337 z338 z339 z340 z341 z342 z343 z344 z345 z346 z347 z348 z349 z350 z351 z352 z353 z354 z355 z356 z357 z358 z359 z360 z361 z362 z363 z364 z365 z366 z367 z368 z369 z370 W9 hb9
  exact hQ.out _ _ _ _ _ _ _ _ _ _ _ _ _ _ _ _ _ _ _ _ _ _ _ _ _ _ _ _ _ _ _ _ _ _ _ _ _ _ _ _ _ _ _ _ _ _ _ _ _ _ _ _ _ _ _ _ _ _ _ _ _ _ _ _ _ _ _ _ _ _ _ _ _ _ _ _ _ _ _ _ _ _ _ _ _ _ _ _ _ _ _ _ _ _ _ _ _ _ _ _ _ _ _ _ _ _ _ _ _ _ _ _ _ _ _ _ _ _ _ _ _ _ _ _ _ _ _ _ _ _ _ _ _ _ _ _ _ _ _ _ _ _ _ _ _ _ _ _ _ _ _ _ _ _ _ _ _ _ _ _ _ _ _ _ _ _ _ _ _ _ _ _ _ _ _ _ _ _ _ _ _ _ _ _ _ _ _ _ _ _ _ _ _ _ _ _ _ _ _ _ _ _ _ _ _ _ _ _ _ _ _ _ _ _ _ _ _ _ _ _ _ _ _ _ _ _ _ _ _ _ _ _ _ _ _ _ _ _ _ _ _ _ _ _ _ _ _ _ _ _ _ _ _ _ _ _ _ _ _ _ _ _ _ _ _ _ _ _ _ _ _ _ _ _ _ _ _ _ _ _ _ _ _ _ _ _ _ _ _ _ _ _ _ _ ((HST.out).below hb9) HM.out

set_option maxRecDepth 1000000 in
set_option maxHeartbeats 16000000 in
theorem rn_r3 {w W : World} {b lb i m c4 ab ao nn cc : Nat} {kk cls id size : Int} {drop : Bool} {r l : Nat → Int} {L : List On} {s : LS} {F : Nat → Prop} {p4 : Option Addr} {a0 a3 a4 a6 a7 a8 a9 a10 a11 a15 a16 a17 a18 a19 a20 a21 a22 a23 a24 a25 a26 a27 a28 a29 a30 a31 a32 a33 a34 a35 a36 a37 a38 a39 a40 a41 a42 a43 a44 a45 a46 a47 a48 a49 a50 a51 a52 a53 a54 a55 a56 a57 a58 a59 a60 a61 a62 a63 a64 a65 a66 a67 a68 a69 a70 a71 a72 a73 a74 a75 a76 a77 a78 a79 a80 a81 a82 a83 a84 a85 a86 a87 a88 a89 a90 a91 a92 a93 a94 a95 a96 a97 a98 a99 a100 a101 a102 a103 a104 a105 a106 a107 a108 a109 a110 a111 a112 a113 a114 a115 a116 a117 a118 a119 a120 a121 a122 a123 a124 a125 a126 a127 a128 a129 a130 a131 a132 a133 a134 a135 a136 a137 a138 a139 a140 a141 a142 a143 a144 a145 a146 a147 a148 a149 a150 a151 a152 a153 a154 a155 a156 a157 a158 a159 a160 a161 a162 a163 a164 a165 a166 a167 a168 a169 a170 a171 a172 a173 a174 a175 a176 a177 a178 a179 a180 a181 a182 a183 a184 a185 a186 a187 a188 a189 a190 a191 a192 a193 a194 a195 a196 a197 a198 a199 a200 a201 a202 a203 a204 a205 a206 a207 a208 a209 a210 a211 a212 a213 a214 a215 a216 a217 a218 a219 a220 a221 a222 a223 a224 a225 a226 a227 a228 a229 a230 a231 a232 a233 a234 a235 a236 a237 a238 a239 a240 a241 a242 a243 a244 a245 a246 a247 a248 a249 a250 a251 a252 a253 a254 a255 a256 a257 a258 a259 a260 a261 a262 a263 a264 a265 a266 a267 a268 a269 a270 a271 a272 a273 a274 a275 a276 a277 a278 a279 a280 a281 a282 a283 a284 a285 a286 a287 a288 a289 a290 a291 a292 a293 a294 a295 a296 a297 a298 a299 a300 a301 a302 a303 a304 a305 a306 a307 a308 a309 a310 a311 a312 a313 a314 a315 a316 a317 a318 a319 a320 a321 a322 a323 a324 a325 a326 a327 a328 a329 a330 a331 a332 a333 a334 a335 a336 a337 a338 a339 a340 a341 a342 a343 a344 a345 a346 a347 a348 a349 a350 a351 a352 a353 a354 a355 a356 a357 a358 a359 a360 a361 a362 a363 a364 a365 a366 a367 a368 a369 a370 : Value} {Q0 : Exit → Act → World → Prop}
    (hR : St w b lb r i s L F (.slice p4 m c4) W) (hm : L.length = m) (hi : i < 100) (hn : i < nn) (hok : okR r 8) (q0 : W.cell? ⟨ab, ao + i * 13, none⟩ = some (.int .i64 kk)) (q1 : W.cell? ⟨ab, ao + i * 13 + 1, none⟩ = some (.int .i64 cls)) (q2 : W.cell? ⟨ab, ao + i * 13 + 2, none⟩ = some (.int .i64 id)) (q3 : W.cell? ⟨ab, ao + i * 13 + 3, none⟩ = some (.int .i64 size)) (q4 : W.cell? ⟨ab, ao + i * 13 + 4, none⟩ = some (.bool drop)) (q5 : W.cell? ⟨ab, ao + i * 13 + 5, none⟩ = some (.int .i64 (l 0))) (q6 : W.cell? ⟨ab, ao + i * 13 + 6, none⟩ = some (.int .i64 (l 1))) (q7 : W.cell? ⟨ab, ao + i * 13 + 7, none⟩ = some (.int .i64 (l 2))) (q8 : W.cell? ⟨ab, ao + i * 13 + 8, none⟩ = some (.int .i64 (l 3))) (q9 : W.cell? ⟨ab, ao + i * 13 + 9, none⟩ = some (.int .i64 (l 4))) (q10 : W.cell? ⟨ab, ao + i * 13 + 10, none⟩ = some (.int .i64 (l 5))) (q11 : W.cell? ⟨ab, ao + i * 13 + 11, none⟩ = some (.int .i64 (l 6))) (q12 : W.cell? ⟨ab, ao + i * 13 + 12, none⟩ = some (.int .i64 (l 7))) (hk : kk = 3)
    (hP : ∀ c (ax : Act) (kx : Option Nat) (vx : Value) (wx : World), Q0 (.panic c) (ax.put kx vx) wx → Q0 (.panic c) ax wx)
    (hQ : ∀ (z4 z15 z16 z17 z18 z19 z20 z21 z22 z23 z24 z25 z26 z27 z28 z29 z30 z31 z102 z103 z104 z105 z106 z107 z108 z109 z110 z111 z112 z113 z114 z115 z116 z117 z118 z119 z120 z121 z122 z123 z124 z125 z126 z127 z128 z129 z130 z131 z132 z133 z134 z135 z136 z137 z138 z139 z140 z141 z142 z143 z144 z145 z146 z147 z148 z149 z150 z151 z152 z153 z154 z155 z156 z157 z158 z159 z160 z161 z162 z163 z164 z165 z166 z167 z168 z169 z170 z171 z172 z173 z174 z175 z176 z177 z178 z179 z180 z181 z182 z183 z184 z185 z186 z187 z188 z189 z190 z191 z192 z193 z194 z195 z196 z197 z198 z199 z200 z201 z202 z203 z204 z205 z206 z207 z208 z209 z210 z211 z212 z213 z214 z215 z216 z217 z218 z219 z220 z221 z222 z223 z224 z225 z226 z227 z228 z229 z230 z231 z232 z233 z234 z235 z236 z237 z238 z239 z240 z241 z242 z243 z244 z245 z246 z247 z248 z249 z250 z251 z252 z253 z254 z255 z256 z257 z258 z259 z260 z261 z262 z263 z264 z265 z266 z267 z268 z269 z270 z271 z272 z273 z274 z275 z276 z277 z278 z279 z280 z281 z282 z283 z284 z285 z286 z287 z288 z289 z290 z291 z292 z293 z294 z295 z296 z297 z298 z299 z300 z301 z302 z303 z304 z305 z306 z307 z308 z309 z310 z311 z312 z313 z314 z315 z316 z317 z318 z319 z320 z321 z322 z323 z324 z325 z326 z327 z328 z329 z330 z331 z332 z333 z334 z335 z336 z337 z338 z339 z340 z341 z342 z343 z344 z345 z346 z347 z348 z349 z350 z351 z352 z353 z354 z355 z356 z357 z358 z359 z360 z361 z362 z363 z364 z365 z366 z367 z368 z369 z370 : Value) (s' : LS) (L' : List On) (F' : Nat → Prop) (p' : Option Addr) (m' c' : Nat) (W' : World), St w b lb r (i + 1) s' L' F' (.slice p' m' c') W' → L'.length = m' → Q0 .normal ⟨#[a0, .slice (some ⟨ab, ao, none⟩) nn cc, .pointer (some ⟨w.heap.size, 0, none⟩), a3, z4, .pointer (some ⟨b, 0, none⟩), a6, a7, a8, a9, a10, a11, (.slice p' m' c'), .pointer (some ⟨lb, 0, none⟩), .int .i64 (i : Int), z15, z16, z17, z18, z19, z20, z21, z22, z23, z24, z25, z26, z27, z28, z29, z30, z31, a32, a33, a34, a35, a36, a37, a38, a39, a40, a41, a42, a43, a44, a45, a46, a47, a48, a49, a50, a51, a52, a53, a54, a55, a56, a57, a58, a59, a60, a61, a62, a63, a64, a65, a66, a67, a68, a69, a70, a71, a72, a73, a74, a75, a76, a77, a78, a79, a80, a81, a82, a83, a84, a85, a86, a87, a88, a89, a90, a91, a92, a93, a94, a95, a96, a97, a98, a99, a100, a101, z102, z103, z104, z105, z106, z107, z108, z109, z110, z111, z112, z113, z114, z115, z116, z117, z118, z119, z120, z121, z122, z123, z124, z125, z126, z127, z128, z129, z130, z131, z132, z133, z134, z135, z136, z137, z138, z139, z140, z141, z142, z143, z144, z145, z146, z147, z148, z149, z150, z151, z152, z153, z154, z155, z156, z157, z158, z159, z160, z161, z162, z163, z164, z165, z166, z167, z168, z169, z170, z171, z172, z173, z174, z175, z176, z177, z178, z179, z180, z181, z182, z183, z184, z185, z186, z187, z188, z189, z190, z191, z192, z193, z194, z195, z196, z197, z198, z199, z200, z201, z202, z203, z204, z205, z206, z207, z208, z209, z210, z211, z212, z213, z214, z215, z216, z217, z218, z219, z220, z221, z222, z223, z224, z225, z226, z227, z228, z229, z230, z231, z232, z233, z234, z235, z236, z237, z238, z239, z240, z241, z242, z243, z244, z245, z246, z247, z248, z249, z250, z251, z252, z253, z254, z255, z256, z257, z258, z259, z260, z261, z262, z263, z264, z265, z266, z267, z268, z269, z270, z271, z272, z273, z274, z275, z276, z277, z278, z279, z280, z281, z282, z283, z284, z285, z286, z287, z288, z289, z290, z291, z292, z293, z294, z295, z296, z297, z298, z299, z300, z301, z302, z303, z304, z305, z306, z307, z308, z309, z310, z311, z312, z313, z314, z315, z316, z317, z318, z319, z320, z321, z322, z323, z324, z325, z326, z327, z328, z329, z330, z331, z332, z333, z334, z335, z336, z337, z338, z339, z340, z341, z342, z343, z344, z345, z346, z347, z348, z349, z350, z351, z352, z353, z354, z355, z356, z357, z358, z359, z360, z361, z362, z363, z364, z365, z366, z367, z368, z369, z370], []⟩ W') :
    Code.wp Try.prog (partOf 18 1) Q0 ⟨#[a0, .slice (some ⟨ab, ao, none⟩) nn cc, .pointer (some ⟨w.heap.size, 0, none⟩), a3, a4, .pointer (some ⟨b, 0, none⟩), a6, a7, a8, a9, a10, a11, .slice p4 m c4, .pointer (some ⟨lb, 0, none⟩), .int .i64 (i : Int), a15, a16, a17, a18, a19, a20, a21, a22, a23, a24, a25, a26, a27, a28, a29, a30, a31, a32, a33, a34, a35, a36, a37, a38, a39, a40, a41, a42, a43, a44, a45, a46, a47, a48, a49, a50, a51, a52, a53, a54, a55, a56, a57, a58, a59, a60, a61, a62, a63, a64, a65, a66, a67, a68, a69, a70, a71, a72, a73, a74, a75, a76, a77, a78, a79, a80, a81, a82, a83, a84, a85, a86, a87, a88, a89, a90, a91, a92, a93, a94, a95, a96, a97, a98, a99, a100, a101, a102, a103, a104, a105, a106, a107, a108, a109, a110, a111, a112, a113, a114, a115, a116, a117, a118, a119, a120, a121, a122, a123, a124, a125, a126, a127, a128, a129, a130, a131, a132, a133, a134, a135, a136, a137, a138, a139, a140, a141, a142, a143, a144, a145, a146, a147, a148, a149, a150, a151, a152, a153, a154, a155, a156, a157, a158, a159, a160, a161, a162, a163, a164, a165, a166, a167, a168, a169, a170, a171, a172, a173, a174, a175, a176, a177, a178, a179, a180, a181, a182, a183, a184, a185, a186, a187, a188, a189, a190, a191, a192, a193, a194, a195, a196, a197, a198, a199, a200, a201, a202, a203, a204, a205, a206, a207, a208, a209, a210, a211, a212, a213, a214, a215, a216, a217, a218, a219, a220, a221, a222, a223, a224, a225, a226, a227, a228, a229, a230, a231, a232, a233, a234, a235, a236, a237, a238, a239, a240, a241, a242, a243, a244, a245, a246, a247, a248, a249, a250, a251, a252, a253, a254, a255, a256, a257, a258, a259, a260, a261, a262, a263, a264, a265, a266, a267, a268, a269, a270, a271, a272, a273, a274, a275, a276, a277, a278, a279, a280, a281, a282, a283, a284, a285, a286, a287, a288, a289, a290, a291, a292, a293, a294, a295, a296, a297, a298, a299, a300, a301, a302, a303, a304, a305, a306, a307, a308, a309, a310, a311, a312, a313, a314, a315, a316, a317, a318, a319, a320, a321, a322, a323, a324, a325, a326, a327, a328, a329, a330, a331, a332, a333, a334, a335, a336, a337, a338, a339, a340, a341, a342, a343, a344, a345, a346, a347, a348, a349, a350, a351, a352, a353, a354, a355, a356, a357, a358, a359, a360, a361, a362, a363, a364, a365, a366, a367, a368, a369, a370], []⟩ W := by
  replace hQ := Lib.hid hQ
  have HK := Lib.hid hk
  clear hk
  have HM := Lib.hid hm
  have HI := Lib.hid hi
  have HOK := Lib.hid hok
  have hR0 := hR.below (bAl (bRef W) (.cells #[.int .i64 kk, .int .i64 cls, .int .i64 id, .int .i64 size, .bool drop, .int .i64 (l 0), .int .i64 (l 1), .int .i64 (l 2), .int .i64 (l 3), .int .i64 (l 4), .int .i64 (l 5), .int .i64 (l 6), .int .i64 (l 7)] 39 (0, 0)))
  have HR := Lib.hid hR0
  have hsb0 : ¬ F W.heap.size := fun f => by have := hR.st.ln.ln.top.2 _ f; omega
  have HSB := Lib.hid hsb0
  have hO0 : StepB (W.alloc (.cells #[.int .i64 kk, .int .i64 cls, .int .i64 id, .int .i64 size, .bool drop, .int .i64 (l 0), .int .i64 (l 1), .int .i64 (l 2), .int .i64 (l 3), .int .i64 (l 4), .int .i64 (l 5), .int .i64 (l 6), .int .i64 (l 7)] 39 (0, 0))) W.heap.size kk cls id size drop l := heap_alloc_new W _
  have HO := Lib.hid hO0
  have HP := Lib.hid hP
  have hm2 : m ≤ 100 := by have := hR.ln; omega
  have HM2 := Lib.hid hm2
  have ei : IntKind.i64.wrap (i : Int) = (i : Int) := by rw [IntKind.wrap_i64]; omega
  have dn : decide ((i : Int) < (nn : Int)) = true := decide_eq_true (by omega)
  clear hm hok hR hR0 hsb0 hO0 hP hm2
  conv => arg 2; whnf
  go_step
  apply wp_seq_k
  intro KA hKA
  have HKA := Lib.hid hKA
  clear hKA
  go_wp2_with fail
  refine HKA.out _ _ ?_
  clear q0 q1 q2 q3 q4 q5 q6 q7 q8 q9 q10 q11 q12 ei dn hn hi
  apply wp_seq_k
  intro KB hKB
  have HKB := Lib.hid hKB
  clear hKB
  go_wp2_with fail
  refine HKB.out _ _ ?_
  apply wp_seq_k
  intro KC hKC
  have HKC := Lib.hid hKC
  clear hKC
  go_wp2_with fail
  refine HKC.out _ _ ?_
  apply wp_seq_k
  intro KD hKD
  refine rn_count HR.out.st.row HM.out HM2.out HO.out ?_
  intro z18 z19 z106 z107 z108 z109 z110 z111 z112 z113 z114 z115 z116 z117 z118 z119 z120 z121 z122 z123 n fv W1 hcn hfv hb1
  refine hKD _ _ ?_
  have HR1 := Lib.hid (HR.out.below hb1)
  have HO1 := Lib.hid (HO.out.below hb1)
  have o0 : W1.cell? ⟨W.heap.size, 0, none⟩ = some (.int .i64 kk) := cell_of_row _ _ _ _ _ _ HO1.out
  have HCN := Lib.hid hcn
  have HFV := Lib.hid hfv
  clear hKD hb1 hcn hfv
  apply wp_seq_k
  intro KR hKR
  have HKR := Lib.hid hKR
  clear hKR
  have hk := HK.out
  subst hk
  go_upto_if 126 with (fail)
  refine wp_cond_false (by go_simp) ?_
  go_upto_if 197 with (fail)
  refine wp_cond_false (by go_simp) ?_
  go_upto_if 293 with (fail)
  refine wp_cond_false (by go_simp) ?_
  go_upto_if 327 with (fail)
  refine wp_cond_true (by go_simp) ?_
  refine rn_clear HR1.out HM.out HI.out HO1.out HSB.out ?_
  intro z4 z329 z330 z331 z332 z333 s' L' F' p' m' c' W2 hst hl
  have HST := Lib.hid hst
  have HL := Lib.hid hl
  clear hst hl o0
  go_wp2_with fail
  refine HKR.out _ _ ?_
  refine rn_tail (HST.out) HL.out (by have := HI.out; omega) (fun cx ax kx vx wx hx => HP.out cx ax kx vx wx hx) ?_
  intro z4 z30 z31 z334 z335 z336 z337 z338 z339 z340 z341 z342 z343 z344 z345 z346 z347 z348 z349 z350 z351 z352 z353 z354 z355 z356 z357 z358 z359 z360 z361 z362 z363 z364 z365 z366 z367 z368 z369 z370 W9 hb9
  exact hQ.out _ _ _ _ _ _ _ _ _ _ _ _ _ _ _ _ _ _ _ _ _ _ _ _ _ _ _ _ _ _ _ _ _ _ _ _ _ _ _ _ _ _ _ _ _ _ _ _ _ _ _ _ _ _ _ _ _ _ _ _ _ _ _ _ _ _ _ _ _ _ _ _ _ _ _ _ _ _ _ _ _ _ _ _ _ _ _ _ _ _ _ _ _ _ _ _ _ _ _ _ _ _ _ _ _ _ _ _ _ _ _ _ _ _ _ _ _ _ _ _ _ _ _ _ _ _ _ _ _ _ _ _ _ _ _ _ _ _ _ _ _ _ _ _ _ _ _ _ _ _ _ _ _ _ _ _ _ _ _ _ _ _ _ _ _ _ _ _ _ _ _ _ _ _ _ _ _ _ _ _ _ _ _ _ _ _ _ _ _ _ _ _ _ _ _ _ _ _ _ _ _ _ _ _ _ _ _ _ _ _ _ _ _ _ _ _ _ _ _ _ _ _ _ _ _ _ _ _ _ _ _ _ _ _ _ _ _ _ _ _ _ _ _ _ _ _ _ _ _ _ _ _ _ _ _ _ _ _ _ _ _ _ _ _ _ _ _ _ _ _ _ _ _ _ _ _ _ _ _ _ _ _ _ _ _ _ _ _ _ _ _ _ _ _ ((HST.out).below hb9) HL.out

set_option maxRecDepth 1000000 in
set_option maxHeartbeats 16000000 in
theorem rn_r4 {w W : World} {b lb i m c4 ab ao nn cc : Nat} {kk cls id size : Int} {drop : Bool} {r l : Nat → Int} {L : List On} {s : LS} {F : Nat → Prop} {p4 : Option Addr} {a0 a3 a4 a6 a7 a8 a9 a10 a11 a15 a16 a17 a18 a19 a20 a21 a22 a23 a24 a25 a26 a27 a28 a29 a30 a31 a32 a33 a34 a35 a36 a37 a38 a39 a40 a41 a42 a43 a44 a45 a46 a47 a48 a49 a50 a51 a52 a53 a54 a55 a56 a57 a58 a59 a60 a61 a62 a63 a64 a65 a66 a67 a68 a69 a70 a71 a72 a73 a74 a75 a76 a77 a78 a79 a80 a81 a82 a83 a84 a85 a86 a87 a88 a89 a90 a91 a92 a93 a94 a95 a96 a97 a98 a99 a100 a101 a102 a103 a104 a105 a106 a107 a108 a109 a110 a111 a112 a113 a114 a115 a116 a117 a118 a119 a120 a121 a122 a123 a124 a125 a126 a127 a128 a129 a130 a131 a132 a133 a134 a135 a136 a137 a138 a139 a140 a141 a142 a143 a144 a145 a146 a147 a148 a149 a150 a151 a152 a153 a154 a155 a156 a157 a158 a159 a160 a161 a162 a163 a164 a165 a166 a167 a168 a169 a170 a171 a172 a173 a174 a175 a176 a177 a178 a179 a180 a181 a182 a183 a184 a185 a186 a187 a188 a189 a190 a191 a192 a193 a194 a195 a196 a197 a198 a199 a200 a201 a202 a203 a204 a205 a206 a207 a208 a209 a210 a211 a212 a213 a214 a215 a216 a217 a218 a219 a220 a221 a222 a223 a224 a225 a226 a227 a228 a229 a230 a231 a232 a233 a234 a235 a236 a237 a238 a239 a240 a241 a242 a243 a244 a245 a246 a247 a248 a249 a250 a251 a252 a253 a254 a255 a256 a257 a258 a259 a260 a261 a262 a263 a264 a265 a266 a267 a268 a269 a270 a271 a272 a273 a274 a275 a276 a277 a278 a279 a280 a281 a282 a283 a284 a285 a286 a287 a288 a289 a290 a291 a292 a293 a294 a295 a296 a297 a298 a299 a300 a301 a302 a303 a304 a305 a306 a307 a308 a309 a310 a311 a312 a313 a314 a315 a316 a317 a318 a319 a320 a321 a322 a323 a324 a325 a326 a327 a328 a329 a330 a331 a332 a333 a334 a335 a336 a337 a338 a339 a340 a341 a342 a343 a344 a345 a346 a347 a348 a349 a350 a351 a352 a353 a354 a355 a356 a357 a358 a359 a360 a361 a362 a363 a364 a365 a366 a367 a368 a369 a370 : Value} {Q0 : Exit → Act → World → Prop}
    (hR : St w b lb r i s L F (.slice p4 m c4) W) (hm : L.length = m) (hi : i < 100) (hn : i < nn) (hok : okR r 8) (q0 : W.cell? ⟨ab, ao + i * 13, none⟩ = some (.int .i64 kk)) (q1 : W.cell? ⟨ab, ao + i * 13 + 1, none⟩ = some (.int .i64 cls)) (q2 : W.cell? ⟨ab, ao + i * 13 + 2, none⟩ = some (.int .i64 id)) (q3 : W.cell? ⟨ab, ao + i * 13 + 3, none⟩ = some (.int .i64 size)) (q4 : W.cell? ⟨ab, ao + i * 13 + 4, none⟩ = some (.bool drop)) (q5 : W.cell? ⟨ab, ao + i * 13 + 5, none⟩ = some (.int .i64 (l 0))) (q6 : W.cell? ⟨ab, ao + i * 13 + 6, none⟩ = some (.int .i64 (l 1))) (q7 : W.cell? ⟨ab, ao + i * 13 + 7, none⟩ = some (.int .i64 (l 2))) (q8 : W.cell? ⟨ab, ao + i * 13 + 8, none⟩ = some (.int .i64 (l 3))) (q9 : W.cell? ⟨ab, ao + i * 13 + 9, none⟩ = some (.int .i64 (l 4))) (q10 : W.cell? ⟨ab, ao + i * 13 + 10, none⟩ = some (.int .i64 (l 5))) (q11 : W.cell? ⟨ab, ao + i * 13 + 11, none⟩ = some (.int .i64 (l 6))) (q12 : W.cell? ⟨ab, ao + i * 13 + 12, none⟩ = some (.int .i64 (l 7))) (k0 : (kk == 0) = false) (k1 : (kk == 1) = false) (k2 : (kk == 2) = false) (k3 : (kk == 3) = false)
    (hP : ∀ c (ax : Act) (kx : Option Nat) (vx : Value) (wx : World), Q0 (.panic c) (ax.put kx vx) wx → Q0 (.panic c) ax wx)
    (hQ : ∀ (z4 z15 z16 z17 z18 z19 z20 z21 z22 z23 z24 z25 z26 z27 z28 z29 z30 z31 z102 z103 z104 z105 z106 z107 z108 z109 z110 z111 z112 z113 z114 z115 z116 z117 z118 z119 z120 z121 z122 z123 z124 z125 z126 z127 z128 z129 z130 z131 z132 z133 z134 z135 z136 z137 z138 z139 z140 z141 z142 z143 z144 z145 z146 z147 z148 z149 z150 z151 z152 z153 z154 z155 z156 z157 z158 z159 z160 z161 z162 z163 z164 z165 z166 z167 z168 z169 z170 z171 z172 z173 z174 z175 z176 z177 z178 z179 z180 z181 z182 z183 z184 z185 z186 z187 z188 z189 z190 z191 z192 z193 z194 z195 z196 z197 z198 z199 z200 z201 z202 z203 z204 z205 z206 z207 z208 z209 z210 z211 z212 z213 z214 z215 z216 z217 z218 z219 z220 z221 z222 z223 z224 z225 z226 z227 z228 z229 z230 z231 z232 z233 z234 z235 z236 z237 z238 z239 z240 z241 z242 z243 z244 z245 z246 z247 z248 z249 z250 z251 z252 z253 z254 z255 z256 z257 z258 z259 z260 z261 z262 z263 z264 z265 z266 z267 z268 z269 z270 z271 z272 z273 z274 z275 z276 z277 z278 z279 z280 z281 z282 z283 z284 z285 z286 z287 z288 z289 z290 z291 z292 z293 z294 z295 z296 z297 z298 z299 z300 z301 z302 z303 z304 z305 z306 z307 z308 z309 z310 z311 z312 z313 z314 z315 z316 z317 z318 z319 z320 z321 z322 z323 z324 z325 z326 z327 z328 z329 z330 z331 z332 z333 z334 z335 z336 z337 z338 z339 z340 z341 z342 z343 z344 z345 z346 z347 z348 z349 z350 z351 z352 z353 z354 z355 z356 z357 z358 z359 z360 z361 z362 z363 z364 z365 z366 z367 z368 z369 z370 : Value) (s' : LS) (L' : List On) (F' : Nat → Prop) (p' : Option Addr) (m' c' : Nat) (W' : World), St w b lb r (i + 1) s' L' F' (.slice p' m' c') W' → L'.length = m' → Q0 .normal ⟨#[a0, .slice (some ⟨ab, ao, none⟩) nn cc, .pointer (some ⟨w.heap.size, 0, none⟩), a3, z4, .pointer (some ⟨b, 0, none⟩), a6, a7, a8, a9, a10, a11, (.slice p' m' c'), .pointer (some ⟨lb, 0, none⟩), .int .i64 (i : Int), z15, z16, z17, z18, z19, z20, z21, z22, z23, z24, z25, z26, z27, z28, z29, z30, z31, a32, a33, a34, a35, a36, a37, a38, a39, a40, a41, a42, a43, a44, a45, a46, a47, a48, a49, a50, a51, a52, a53, a54, a55, a56, a57, a58, a59, a60, a61, a62, a63, a64, a65, a66, a67, a68, a69, a70, a71, a72, a73, a74, a75, a76, a77, a78, a79, a80, a81, a82, a83, a84, a85, a86, a87, a88, a89, a90, a91, a92, a93, a94, a95, a96, a97, a98, a99, a100, a101, z102, z103, z104, z105, z106, z107, z108, z109, z110, z111, z112, z113, z114, z115, z116, z117, z118, z119, z120, z121, z122, z123, z124, z125, z126, z127, z128, z129, z130, z131, z132, z133, z134, z135, z136, z137, z138, z139, z140, z141, z142, z143, z144, z145, z146, z147, z148, z149, z150, z151, z152, z153, z154, z155, z156, z157, z158, z159, z160, z161, z162, z163, z164, z165, z166, z167, z168, z169, z170, z171, z172, z173, z174, z175, z176, z177, z178, z179, z180, z181, z182, z183, z184, z185, z186, z187, z188, z189, z190, z191, z192, z193, z194, z195, z196, z197, z198, z199, z200, z201, z202, z203, z204, z205, z206, z207, z208, z209, z210, z211, z212, z213, z214, z215, z216, z217, z218, z219, z220, z221, z222, z223, z224, z225, z226, z227, z228, z229, z230, z231, z232, z233, z234, z235, z236, z237, z238, z239, z240, z241, z242, z243, z244, z245, z246, z247, z248, z249, z250, z251, z252, z253, z254, z255, z256, z257, z258, z259, z260, z261, z262, z263, z264, z265, z266, z267, z268, z269, z270, z271, z272, z273, z274, z275, z276, z277, z278, z279, z280, z281, z282, z283, z284, z285, z286, z287, z288, z289, z290, z291, z292, z293, z294, z295, z296, z297, z298, z299, z300, z301, z302, z303, z304, z305, z306, z307, z308, z309, z310, z311, z312, z313, z314, z315, z316, z317, z318, z319, z320, z321, z322, z323, z324, z325, z326, z327, z328, z329, z330, z331, z332, z333, z334, z335, z336, z337, z338, z339, z340, z341, z342, z343, z344, z345, z346, z347, z348, z349, z350, z351, z352, z353, z354, z355, z356, z357, z358, z359, z360, z361, z362, z363, z364, z365, z366, z367, z368, z369, z370], []⟩ W') :
    Code.wp Try.prog (partOf 18 1) Q0 ⟨#[a0, .slice (some ⟨ab, ao, none⟩) nn cc, .pointer (some ⟨w.heap.size, 0, none⟩), a3, a4, .pointer (some ⟨b, 0, none⟩), a6, a7, a8, a9, a10, a11, .slice p4 m c4, .pointer (some ⟨lb, 0, none⟩), .int .i64 (i : Int), a15, a16, a17, a18, a19, a20, a21, a22, a23, a24, a25, a26, a27, a28, a29, a30, a31, a32, a33, a34, a35, a36, a37, a38, a39, a40, a41, a42, a43, a44, a45, a46, a47, a48, a49, a50, a51, a52, a53, a54, a55, a56, a57, a58, a59, a60, a61, a62, a63, a64, a65, a66, a67, a68, a69, a70, a71, a72, a73, a74, a75, a76, a77, a78, a79, a80, a81, a82, a83, a84, a85, a86, a87, a88, a89, a90, a91, a92, a93, a94, a95, a96, a97, a98, a99, a100, a101, a102, a103, a104, a105, a106, a107, a108, a109, a110, a111, a112, a113, a114, a115, a116, a117, a118, a119, a120, a121, a122, a123, a124, a125, a126, a127, a128, a129, a130, a131, a132, a133, a134, a135, a136, a137, a138, a139, a140, a141, a142, a143, a144, a145, a146, a147, a148, a149, a150, a151, a152, a153, a154, a155, a156, a157, a158, a159, a160, a161, a162, a163, a164, a165, a166, a167, a168, a169, a170, a171, a172, a173, a174, a175, a176, a177, a178, a179, a180, a181, a182, a183, a184, a185, a186, a187, a188, a189, a190, a191, a192, a193, a194, a195, a196, a197, a198, a199, a200, a201, a202, a203, a204, a205, a206, a207, a208, a209, a210, a211, a212, a213, a214, a215, a216, a217, a218, a219, a220, a221, a222, a223, a224, a225, a226, a227, a228, a229, a230, a231, a232, a233, a234, a235, a236, a237, a238, a239, a240, a241, a242, a243, a244, a245, a246, a247, a248, a249, a250, a251, a252, a253, a254, a255, a256, a257, a258, a259, a260, a261, a262, a263, a264, a265, a266, a267, a268, a269, a270, a271, a272, a273, a274, a275, a276, a277, a278, a279, a280, a281, a282, a283, a284, a285, a286, a287, a288, a289, a290, a291, a292, a293, a294, a295, a296, a297, a298, a299, a300, a301, a302, a303, a304, a305, a306, a307, a308, a309, a310, a311, a312, a313, a314, a315, a316, a317, a318, a319, a320, a321, a322, a323, a324, a325, a326, a327, a328, a329, a330, a331, a332, a333, a334, a335, a336, a337, a338, a339, a340, a341, a342, a343, a344, a345, a346, a347, a348, a349, a350, a351, a352, a353, a354, a355, a356, a357, a358, a359, a360, a361, a362, a363, a364, a365, a366, a367, a368, a369, a370], []⟩ W := by
  replace hQ := Lib.hid hQ
  have HM := Lib.hid hm
  have HI := Lib.hid hi
  have HOK := Lib.hid hok
  have hR0 := hR.below (bAl (bRef W) (.cells #[.int .i64 kk, .int .i64 cls, .int .i64 id, .int .i64 size, .bool drop, .int .i64 (l 0), .int .i64 (l 1), .int .i64 (l 2), .int .i64 (l 3), .int .i64 (l 4), .int .i64 (l 5), .int .i64 (l 6), .int .i64 (l 7)] 39 (0, 0)))
  have HR := Lib.hid hR0
  have hsb0 : ¬ F W.heap.size := fun f => by have := hR.st.ln.ln.top.2 _ f; omega
  have HSB := Lib.hid hsb0
  have hO0 : StepB (W.alloc (.cells #[.int .i64 kk, .int .i64 cls, .int .i64 id, .int .i64 size, .bool drop, .int .i64 (l 0), .int .i64 (l 1), .int .i64 (l 2), .int .i64 (l 3), .int .i64 (l 4), .int .i64 (l 5), .int .i64 (l 6), .int .i64 (l 7)] 39 (0, 0))) W.heap.size kk cls id size drop l := heap_alloc_new W _
  have HO := Lib.hid hO0
  have HP := Lib.hid hP
  have hm2 : m ≤ 100 := by have := hR.ln; omega
  have HM2 := Lib.hid hm2
  have ei : IntKind.i64.wrap (i : Int) = (i : Int) := by rw [IntKind.wrap_i64]; omega
  have dn : decide ((i : Int) < (nn : Int)) = true := decide_eq_true (by omega)
  clear hm hok hR hR0 hsb0 hO0 hP hm2
  conv => arg 2; whnf
  go_step
  apply wp_seq_k
  intro KA hKA
  have HKA := Lib.hid hKA
  clear hKA
  go_wp2_with fail
  refine HKA.out _ _ ?_
  clear q0 q1 q2 q3 q4 q5 q6 q7 q8 q9 q10 q11 q12 ei dn hn hi
  apply wp_seq_k
  intro KB hKB
  have HKB := Lib.hid hKB
  clear hKB
  go_wp2_with fail
  refine HKB.out _ _ ?_
  apply wp_seq_k
  intro KC hKC
  have HKC := Lib.hid hKC
  clear hKC
  go_wp2_with fail
  refine HKC.out _ _ ?_
  apply wp_seq_k
  intro KD hKD
  refine rn_count HR.out.st.row HM.out HM2.out HO.out ?_
  intro z18 z19 z106 z107 z108 z109 z110 z111 z112 z113 z114 z115 z116 z117 z118 z119 z120 z121 z122 z123 n fv W1 hcn hfv hb1
  refine hKD _ _ ?_
  have HR1 := Lib.hid (HR.out.below hb1)
  have HO1 := Lib.hid (HO.out.below hb1)
  have o0 : W1.cell? ⟨W.heap.size, 0, none⟩ = some (.int .i64 kk) := cell_of_row _ _ _ _ _ _ HO1.out
  have HCN := Lib.hid hcn
  have HFV := Lib.hid hfv
  clear hKD hb1 hcn hfv
  apply wp_seq_k
  intro KR hKR
  have HKR := Lib.hid hKR
  clear hKR
  have HST := Lib.hid HR1.out.up
  go_wp2_with fail
  refine HKR.out _ _ ?_
  refine rn_tail (HST.out) HM.out (by have := HI.out; omega) (fun cx ax kx vx wx hx => HP.out cx ax kx vx wx hx) ?_
  intro z4 z30 z31 z334 z335 z336 z337 z338 z339 z340 z341 z342 z343 z344 z345 z346 z347 z348 z349 z350 z351 z352 z353 z354 z355 z356 z357 z358 z359 z360 z361 z362 z363 z364 z365 z366 z367 z368 z369 z370 W9 hb9
  exact hQ.out _ _ _ _ _ _ _ _ _ _ _ _ _ _ _ _ _ _ _ _ _ _ _ _ _ _ _ _ _ _ _ _ _ _ _ _ _ _ _ _ _ _ _ _ _ _ _ _ _ _ _ _ _ _ _ _ _ _ _ _ _ _ _ _ _ _ _ _ _ _ _ _ _ _ _ _ _ _ _ _ _ _ _ _ _ _ _ _ _ _ _ _ _ _ _ _ _ _ _ _ _ _ _ _ _ _ _ _ _ _ _ _ _ _ _ _ _ _ _ _ _ _ _ _ _ _ _ _ _ _ _ _ _ _ _ _ _ _ _ _ _ _ _ _ _ _ _ _ _ _ _ _ _ _ _ _ _ _ _ _ _ _ _ _ _ _ _ _ _ _ _ _ _ _ _ _ _ _ _ _ _ _ _ _ _ _ _ _ _ _ _ _ _ _ _ _ _ _ _ _ _ _ _ _ _ _ _ _ _ _ _ _ _ _ _ _ _ _ _ _ _ _ _ _ _ _ _ _ _ _ _ _ _ _ _ _ _ _ _ _ _ _ _ _ _ _ _ _ _ _ _ _ _ _ _ _ _ _ _ _ _ _ _ _ _ _ _ _ _ _ _ _ _ _ _ _ _ _ _ _ _ _ _ _ _ _ _ _ _ _ _ _ _ _ ((HST.out).below hb9) HM.out

end Go.Proofs.Ytpgcadceljalpaa
