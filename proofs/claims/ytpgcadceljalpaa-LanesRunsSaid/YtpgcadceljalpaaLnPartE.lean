/- LanesRuns in parts: what is picked leaves the row. Written by gen_lnrun.py. -/
import Derived.Test.YtpgcadceljalpaaLnPart0
namespace Go.Proofs.Ytpgcadceljalpaa
open Go.RowKit Go.Joins Go.Deep

/-- A part of a row. -/
theorem cut_hi (g m c i : Nat) (hi : i ≤ c) (w : World) : (Instr.sliceAt 37 (.slice (some ⟨g, 0, none⟩) m c) none (some (.int .i64 (i : Int))) none).run Try.prog w = .ok (.slice (some ⟨g, 0, none⟩) i c) w := by
  have u1 := Try.underlying37
  have u2 := Try.sizeOf41
  go_simp
theorem cut_lo (g m c i : Nat) (hi : i ≤ m) (w : World) : (Instr.sliceAt 37 (.slice (some ⟨g, 0, none⟩) m c) (some (.int .i64 (i : Int))) none none).run Try.prog w = .ok (.slice (some (if c = i then ⟨g, 0, none⟩ else ⟨g, i * 4, none⟩)) (m - i) (c - i)) w := by
  have u1 := Try.underlying37
  have u2 := Try.sizeOf41
  go_simp
  split <;> rfl

theorem cut_op_hi {a : Act} {o : Oper} {w : World} {v u r : Value} (s x : Operand) (ho : o.op = .slice 37 s none (some x) none) (hs : a.eval s = v) (hx : a.eval x = u) (h : (Instr.sliceAt 37 v none (some u) none).run Try.prog w = .ok r w) : (execOp a.eval o).run Try.prog w = .ok (.value r) w := by
  unfold execOp
  simp only [ho, Option.map, hs, hx, Sem.run_bind, h, Result.andThen_ok, Sem.run_pure]
theorem cut_op_lo {a : Act} {o : Oper} {w : World} {v u r : Value} (s x : Operand) (ho : o.op = .slice 37 s (some x) none none) (hs : a.eval s = v) (hx : a.eval x = u) (h : (Instr.sliceAt 37 v (some u) none none).run Try.prog w = .ok r w) : (execOp a.eval o).run Try.prog w = .ok (.value r) w := by
  unfold execOp
  simp only [ho, Option.map, hs, hx, Sem.run_bind, h, Result.andThen_ok, Sem.run_pure]
set_option maxRecDepth 1000000 in
set_option maxHeartbeats 16000000 in
theorem rn_erase {W : World} {B i m c4 : Nat} {L : List On} {p4 : Option Addr} {a0 a1 a2 a3 a4 a5 a6 a7 a8 a9 a10 a11 a13 a14 a15 a16 a17 a18 a19 a20 a22 a23 a24 a25 a26 a27 a28 a29 a30 a31 a32 a33 a34 a35 a36 a37 a38 a39 a40 a41 a42 a43 a44 a45 a46 a47 a48 a49 a50 a51 a52 a53 a54 a55 a56 a57 a58 a59 a60 a61 a62 a63 a64 a65 a66 a67 a68 a69 a70 a71 a72 a73 a74 a75 a76 a77 a78 a79 a80 a81 a82 a83 a84 a85 a86 a87 a88 a89 a90 a91 a92 a93 a94 a95 a96 a97 a98 a99 a100 a101 a102 a103 a104 a105 a106 a107 a108 a109 a110 a111 a112 a113 a114 a115 a116 a117 a118 a119 a120 a121 a122 a123 a124 a125 a126 a127 a128 a129 a130 a131 a132 a133 a134 a135 a136 a137 a138 a139 a140 a141 a142 a143 a144 a145 a146 a147 a148 a149 a150 a151 a152 a153 a154 a155 a156 a157 a158 a159 a160 a161 a162 a163 a164 a165 a166 a167 a168 a169 a170 a171 a172 a173 a174 a175 a176 a177 a178 a179 a180 a181 a182 a183 a184 a185 a186 a187 a188 a189 a190 a191 a192 a193 a194 a195 a196 a197 a198 a199 a200 a201 a202 a203 a204 a205 a206 a207 a208 a209 a210 a211 a212 a213 a214 a215 a216 a217 a218 a219 a220 a221 a222 a223 a224 a225 a226 a227 a228 a229 a230 a231 a232 a233 a234 a235 a236 a237 a238 a239 a240 a241 a242 a243 a244 a245 a246 a247 a248 a249 a250 a251 a252 a253 a254 a255 a256 a257 a258 a259 a260 a261 a262 a263 a264 a265 a266 a267 a268 a269 a270 a271 a272 a273 a274 a275 a276 a277 a278 a279 a280 a281 a282 a283 a284 a285 a286 a287 a288 a289 a290 a291 a292 a293 a294 a295 a296 a297 a298 a299 a300 a301 a302 a303 a304 a305 a306 a307 a308 a309 a310 a311 a312 a313 a314 a315 a316 a317 a318 a319 a320 a321 a322 a323 a324 a325 a326 a327 a328 a329 a330 a331 a332 a333 a334 a335 a336 a337 a338 a339 a340 a341 a342 a343 a344 a345 a346 a347 a348 a349 a350 a351 a352 a353 a354 a355 a356 a357 a358 a359 a360 a361 a362 a363 a364 a365 a366 a367 a368 a369 a370 : Value} {Q0 : Exit → Act → World → Prop}
    (hI : Rw B W (.slice p4 m c4) L) (hB : B ≤ W.heap.size) (hm : L.length = m) (hm2 : m ≤ 100) (hi : i < m)
    (hP : ∀ c (ax : Act) (kx : Option Nat) (vx : Value) (wx : World), Q0 (.panic c) (ax.put kx vx) wx → Q0 (.panic c) ax wx)
    (hQ : ∀ (z283 z284 z285 z286 z287 z288 z289 z290 z291 z292 : Value) (p' : Option Addr) (m' c' : Nat) (W' : World), (L.eraseIdx i).length = m' → Rw B W' (.slice p' m' c') (L.eraseIdx i) → (∀ g2, (Value.slice p' m' c').ownBlock = some g2 → W.heap.size ≤ g2) → Below W.heap.size W W' → Q0 .normal ⟨#[a0, a1, a2, a3, a4, a5, a6, a7, a8, a9, a10, a11, (.slice p' m' c'), a13, a14, a15, a16, a17, a18, a19, a20, .int .i64 (i : Int), a22, a23, a24, a25, a26, a27, a28, a29, a30, a31, a32, a33, a34, a35, a36, a37, a38, a39, a40, a41, a42, a43, a44, a45, a46, a47, a48, a49, a50, a51, a52, a53, a54, a55, a56, a57, a58, a59, a60, a61, a62, a63, a64, a65, a66, a67, a68, a69, a70, a71, a72, a73, a74, a75, a76, a77, a78, a79, a80, a81, a82, a83, a84, a85, a86, a87, a88, a89, a90, a91, a92, a93, a94, a95, a96, a97, a98, a99, a100, a101, a102, a103, a104, a105, a106, a107, a108, a109, a110, a111, a112, a113, a114, a115, a116, a117, a118, a119, a120, a121, a122, a123, a124, a125, a126, a127, a128, a129, a130, a131, a132, a133, a134, a135, a136, a137, a138, a139, a140, a141, a142, a143, a144, a145, a146, a147, a148, a149, a150, a151, a152, a153, a154, a155, a156, a157, a158, a159, a160, a161, a162, a163, a164, a165, a166, a167, a168, a169, a170, a171, a172, a173, a174, a175, a176, a177, a178, a179, a180, a181, a182, a183, a184, a185, a186, a187, a188, a189, a190, a191, a192, a193, a194, a195, a196, a197, a198, a199, a200, a201, a202, a203, a204, a205, a206, a207, a208, a209, a210, a211, a212, a213, a214, a215, a216, a217, a218, a219, a220, a221, a222, a223, a224, a225, a226, a227, a228, a229, a230, a231, a232, a233, a234, a235, a236, a237, a238, a239, a240, a241, a242, a243, a244, a245, a246, a247, a248, a249, a250, a251, a252, a253, a254, a255, a256, a257, a258, a259, a260, a261, a262, a263, a264, a265, a266, a267, a268, a269, a270, a271, a272, a273, a274, a275, a276, a277, a278, a279, a280, a281, a282, z283, z284, z285, z286, z287, z288, z289, z290, z291, z292, a293, a294, a295, a296, a297, a298, a299, a300, a301, a302, a303, a304, a305, a306, a307, a308, a309, a310, a311, a312, a313, a314, a315, a316, a317, a318, a319, a320, a321, a322, a323, a324, a325, a326, a327, a328, a329, a330, a331, a332, a333, a334, a335, a336, a337, a338, a339, a340, a341, a342, a343, a344, a345, a346, a347, a348, a349, a350, a351, a352, a353, a354, a355, a356, a357, a358, a359, a360, a361, a362, a363, a364, a365, a366, a367, a368, a369, a370], []⟩ W') :
    Code.wp Try.prog (partOf 61 0) Q0 ⟨#[a0, a1, a2, a3, a4, a5, a6, a7, a8, a9, a10, a11, .slice p4 m c4, a13, a14, a15, a16, a17, a18, a19, a20, .int .i64 (i : Int), a22, a23, a24, a25, a26, a27, a28, a29, a30, a31, a32, a33, a34, a35, a36, a37, a38, a39, a40, a41, a42, a43, a44, a45, a46, a47, a48, a49, a50, a51, a52, a53, a54, a55, a56, a57, a58, a59, a60, a61, a62, a63, a64, a65, a66, a67, a68, a69, a70, a71, a72, a73, a74, a75, a76, a77, a78, a79, a80, a81, a82, a83, a84, a85, a86, a87, a88, a89, a90, a91, a92, a93, a94, a95, a96, a97, a98, a99, a100, a101, a102, a103, a104, a105, a106, a107, a108, a109, a110, a111, a112, a113, a114, a115, a116, a117, a118, a119, a120, a121, a122, a123, a124, a125, a126, a127, a128, a129, a130, a131, a132, a133, a134, a135, a136, a137, a138, a139, a140, a141, a142, a143, a144, a145, a146, a147, a148, a149, a150, a151, a152, a153, a154, a155, a156, a157, a158, a159, a160, a161, a162, a163, a164, a165, a166, a167, a168, a169, a170, a171, a172, a173, a174, a175, a176, a177, a178, a179, a180, a181, a182, a183, a184, a185, a186, a187, a188, a189, a190, a191, a192, a193, a194, a195, a196, a197, a198, a199, a200, a201, a202, a203, a204, a205, a206, a207, a208, a209, a210, a211, a212, a213, a214, a215, a216, a217, a218, a219, a220, a221, a222, a223, a224, a225, a226, a227, a228, a229, a230, a231, a232, a233, a234, a235, a236, a237, a238, a239, a240, a241, a242, a243, a244, a245, a246, a247, a248, a249, a250, a251, a252, a253, a254, a255, a256, a257, a258, a259, a260, a261, a262, a263, a264, a265, a266, a267, a268, a269, a270, a271, a272, a273, a274, a275, a276, a277, a278, a279, a280, a281, a282, a283, a284, a285, a286, a287, a288, a289, a290, a291, a292, a293, a294, a295, a296, a297, a298, a299, a300, a301, a302, a303, a304, a305, a306, a307, a308, a309, a310, a311, a312, a313, a314, a315, a316, a317, a318, a319, a320, a321, a322, a323, a324, a325, a326, a327, a328, a329, a330, a331, a332, a333, a334, a335, a336, a337, a338, a339, a340, a341, a342, a343, a344, a345, a346, a347, a348, a349, a350, a351, a352, a353, a354, a355, a356, a357, a358, a359, a360, a361, a362, a363, a364, a365, a366, a367, a368, a369, a370], []⟩ W := by
  replace hQ := Lib.hid hQ
  have hI' : Rw B W.drew (.slice p4 m c4) L := hI.below ⟨rfl, rfl, rfl, Nat.le_refl _, fun k _ => rfl⟩
  obtain ⟨r, cap, e, hcap, _, hrun⟩ := hI'.erase hB (by omega) (by omega) (i := i)
  injection e with e1 e2 e3
  subst e1
  subst e3
  rw [hm] at hcap hrun
  clear e2 hI'
  obtain ⟨v1, W2, q1, ⟨p1, c1', rfl⟩, _, q2⟩ := hrun c4
  obtain ⟨v2, W3, q3, q4, q5, q6, p2, c2', rfl⟩ := q2 (if c4 = i + 1 then ⟨r, 0, none⟩ else ⟨r, (i + 1) * 4, none⟩) (c4 - (i + 1)) (fun hlt => if_neg (by omega))
  have Q1 := Lib.hid q1
  have Q3 := Lib.hid q3
  have Q4 := Lib.hid q4
  have Q5 := Lib.hid q5
  have Q6 := Lib.hid q6
  have ei : IntKind.i64.wrap ((i : Int) + 1) = (i : Int) + 1 := by rw [IntKind.wrap_i64]; omega
  have k1 := cut_hi r m c4 i (by omega)
  have k2 := cut_lo r m c4 (i + 1) (by omega)
  clear hrun q1 q2 q3 q4 q5 q6 hm hI hB
  conv => arg 2; whnf
  refine wp_region_held_drew (S := fun _ => True) (by kernel_rfl) trivial (fun _ => ?_)
  refine hTake (i := 1) (k := 284) (v := .slice (some ⟨r, 0, none⟩) m c4) rfl rfl (by kernel_rfl) (by kernel_rfl) (by kernel_rfl) (fun cx ax wx hx => hP cx ax _ _ wx hx) (by rfl) (by intro W; go_simp) ?_
  simp only [List.setIfInBounds_toArray, List.set_cons_zero, List.set_cons_succ]
  refine hTake (i := 2) (k := 285) (v := .int .i64 (i : Int)) rfl rfl (by kernel_rfl) (by kernel_rfl) (by kernel_rfl) (fun cx ax wx hx => hP cx ax _ _ wx hx) (by rfl) (by intro W; go_simp) ?_
  simp only [List.setIfInBounds_toArray, List.set_cons_zero, List.set_cons_succ]
  refine hTake (i := 5) (k := 288) (v := .slice (some ⟨r, 0, none⟩) m c4) rfl rfl (by kernel_rfl) (by kernel_rfl) (by kernel_rfl) (fun cx ax wx hx => hP cx ax _ _ wx hx) (by rfl) (by intro W; go_simp) ?_
  simp only [List.setIfInBounds_toArray, List.set_cons_zero, List.set_cons_succ]
  refine hTake (i := 6) (k := 289) (v := .int .i64 (i : Int)) rfl rfl (by kernel_rfl) (by kernel_rfl) (by kernel_rfl) (fun cx ax wx hx => hP cx ax _ _ wx hx) (by rfl) (by intro W; go_simp) ?_
  simp only [List.setIfInBounds_toArray, List.set_cons_zero, List.set_cons_succ]
  refine hTake (i := 7) (k := 290) (v := .int .i64 ((i + 1 : Nat) : Int)) rfl rfl (by kernel_rfl) (by kernel_rfl) (by kernel_rfl) (fun cx ax wx hx => hP cx ax _ _ wx hx) (by rfl) (by intro W; go_simp) ?_
  simp only [List.setIfInBounds_toArray, List.set_cons_zero, List.set_cons_succ]
  refine hTake (i := 3) (k := 286) (v := .slice (some ⟨r, 0, none⟩) i c4) rfl rfl (by kernel_rfl) (by kernel_rfl) (by kernel_rfl) (fun cx ax wx hx => hP cx ax _ _ wx hx) (by rfl) (by intro W; exact cut_op_hi _ _ rfl rfl rfl (k1 W)) ?_
  simp only [List.setIfInBounds_toArray, List.set_cons_zero, List.set_cons_succ]
  refine hTake (i := 8) (k := 291) (v := .slice (some (if c4 = i + 1 then ⟨r, 0, none⟩ else ⟨r, (i + 1) * 4, none⟩)) (m - (i + 1)) (c4 - (i + 1))) rfl rfl (by kernel_rfl) (by kernel_rfl) (by kernel_rfl) (fun cx ax wx hx => hP cx ax _ _ wx hx) (by rfl) (by intro W; exact cut_op_lo _ _ rfl rfl rfl (k2 W)) ?_
  simp only [List.setIfInBounds_toArray, List.set_cons_zero, List.set_cons_succ]
  refine hOne (i := 0) (k := 283) (v := .slice (some ⟨W.heap.size, 0, none⟩) 0 0) (w' := W.drew.alloc (.cells #[] 41)) (by kernel_rfl) rfl rfl (by rfl) (by go_simp) ?_
  simp only [List.setIfInBounds_toArray, List.set_cons_zero, List.set_cons_succ]
  refine hOne (i := 4) (k := 287) (v := .slice p1 i c1') (w' := W2) (by kernel_rfl) rfl rfl (by rfl) (app_op (.tmp 283) (.tmp 286) 37 rfl rfl rfl Q1.out) ?_
  simp only [List.setIfInBounds_toArray, List.set_cons_zero, List.set_cons_succ]
  refine hOne (i := 9) (k := 292) (v := .slice p2 (L.eraseIdx i).length c2') (w' := W3) (by kernel_rfl) rfl rfl (by rfl) (app_op (.tmp 287) (.tmp 291) 37 rfl rfl rfl Q3.out) ?_
  simp only [List.setIfInBounds_toArray, List.set_cons_zero, List.set_cons_succ]
  refine hTake (i := 10) (k := 12) (v := .slice p2 (L.eraseIdx i).length c2') rfl rfl (by kernel_rfl) (by kernel_rfl) (by kernel_rfl) (fun cx ax wx hx => hP cx ax _ _ wx hx) (by rfl) (by intro W; go_simp) ?_
  simp only [List.setIfInBounds_toArray, List.set_cons_zero, List.set_cons_succ]
  refine wpAnyH_done (by kernel_rfl) ?_ _
  exact hQ.out _ _ _ _ _ _ _ _ _ _ _ _ _ _ rfl Q4.out Q6.out ⟨Q5.out.os, Q5.out.tape, Q5.out.output, Q5.out.size, Q5.out.block⟩

end Go.Proofs.Ytpgcadceljalpaa
