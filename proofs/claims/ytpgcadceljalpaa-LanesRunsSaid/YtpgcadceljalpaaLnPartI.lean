/- LanesRuns in parts: Pick. Written by gen_lnrun.py. -/
import Derived.Test.YtpgcadceljalpaaLnPartF
import Derived.Test.YtpgcadceljalpaaLnPartH
import Derived.Test.YtpgcadceljalpaaLnPartD
import Derived.Test.YtpgcadceljalpaaLnPartE
namespace Go.Proofs.Ytpgcadceljalpaa
open Go.RowKit Go.Joins Go.Deep

section
variable {w W W' : World} {b lb i m n c sb t : Nat} {r l : Nat → Int} {L : List On} {s s' : LS} {F : Nat → Prop} {v : Value} {cls kk id size : Int} {drop : Bool} {x : It} {T : List It}
theorem pickN (h : St w b lb r i s L F v W) (hm : L.length = m) (hb : bstN L l m < 0) : Calls Try.prog 9 #[.pointer (some ⟨b, 0, none⟩), .agg #[.int .i64 (l 0), .int .i64 (l 1), .int .i64 (l 2), .int .i64 (l 3), .int .i64 (l 4), .int .i64 (l 5), .int .i64 (l 6), .int .i64 (l 7)]] W fun e w' => e = .returned (.tuple #[.int .i64 0, .agg #[.int .i64 0, .int .i64 0, .bool false], .bool false]) ∧ Left w W b F s w' :=
  pickB_none h.st.ln h.gd (fun c hc => h.al.bst_none (by rw [hm]; exact hb) c hc)
theorem pickS (h : St w b lb r i s L F v W) (hm : L.length = m) (hb : bstN L l m = (t : Int)) : ∃ (c : Nat) (x : It) (T : List It), c < 8 ∧ L[t]? = some ((c : Int), x) ∧ t < m ∧ s.q c = x :: T ∧ All (L.eraseIdx t) { s with q := upd s.q c T } ∧ Calls Try.prog 9 #[.pointer (some ⟨b, 0, none⟩), .agg #[.int .i64 (l 0), .int .i64 (l 1), .int .i64 (l 2), .int .i64 (l 3), .int .i64 (l 4), .int .i64 (l 5), .int .i64 (l 6), .int .i64 (l 7)]] W fun e w' => e = .returned (.tuple #[.int .i64 (c : Int), .agg #[.int .i64 x.1, .int .i64 x.2.1, .bool x.2.2], .bool true]) ∧ Left w W b F { s with q := upd s.q c T } w' := by
  subst hm
  obtain ⟨c, x, T, h1, h2, h3, h4, h5, h6, h7⟩ := h.al.bst_some hb
  exact ⟨c, x, T, h1, h2, h3, h4, h7, pickB_some h.st.ln h.gd h1 h4 h5 h6⟩
theorem St.pop (h : St w b lb r i s L F v W) (hc : c < 8) (hq : s.q c = x :: T) (ha : All (L.eraseIdx t) { s with q := upd s.q c T }) {F' : Nat → Prop} {v' : Value} (h1 : RunS w b lb r s.lost (L.eraseIdx t) { s with q := upd s.q c T } F' v' W') : St w b lb r (i + 1) { s with q := upd s.q c T } (L.eraseIdx t) F' v' W' :=
  ⟨ha, h.gd.pop hc hq, h.er, fun d hd => ⟨(h.ls d hd).1, by have := (h.ls d hd).2; show s.lost d ≤ _; omega⟩, by have := h.ln; have := List.length_eraseIdx_le L t; omega, (fun d hd => by
    show ((upd s.q c T d).length : Int) ≤ r d
    have k := h.cap d hd
    by_cases e : d = c
    · subst e
      rw [upd_same]
      rw [hq] at k
      simp only [List.length_cons] at k
      omega
    · rw [upd_other _ _ e]
      exact k), h1⟩
theorem StepB.l8 (h : StepB W sb kk cls id size drop l) : W.cell? ⟨sb, 5, none⟩ = some (.int .i64 (l 0)) ∧ W.cell? ⟨sb, 6, none⟩ = some (.int .i64 (l 1)) ∧ W.cell? ⟨sb, 7, none⟩ = some (.int .i64 (l 2)) ∧ W.cell? ⟨sb, 8, none⟩ = some (.int .i64 (l 3)) ∧ W.cell? ⟨sb, 9, none⟩ = some (.int .i64 (l 4)) ∧ W.cell? ⟨sb, 10, none⟩ = some (.int .i64 (l 5)) ∧ W.cell? ⟨sb, 11, none⟩ = some (.int .i64 (l 6)) ∧ W.cell? ⟨sb, 12, none⟩ = some (.int .i64 (l 7)) :=
  ⟨cell_of_row _ _ _ _ _ _ h, cell_of_row _ _ _ _ _ _ h, cell_of_row _ _ _ _ _ _ h, cell_of_row _ _ _ _ _ _ h, cell_of_row _ _ _ _ _ _ h, cell_of_row _ _ _ _ _ _ h, cell_of_row _ _ _ _ _ _ h, cell_of_row _ _ _ _ _ _ h⟩
end
set_option maxRecDepth 1000000 in
set_option maxHeartbeats 16000000 in
theorem rn_pick {w W : World} {b lb i m sb c4 : Nat} {kk cls id size : Int} {drop : Bool} {r l : Nat → Int} {L : List On} {s : LS} {F : Nat → Prop} {p4 : Option Addr} {a0 a1 a2 a3 a4 a6 a7 a8 a9 a10 a11 a13 a14 a16 a17 a18 a19 a20 a21 a22 a23 a24 a25 a26 a27 a28 a29 a30 a31 a32 a33 a34 a35 a36 a37 a38 a39 a40 a41 a42 a43 a44 a45 a46 a47 a48 a49 a50 a51 a52 a53 a54 a55 a56 a57 a58 a59 a60 a61 a62 a63 a64 a65 a66 a67 a68 a69 a70 a71 a72 a73 a74 a75 a76 a77 a78 a79 a80 a81 a82 a83 a84 a85 a86 a87 a88 a89 a90 a91 a92 a93 a94 a95 a96 a97 a98 a99 a100 a101 a102 a103 a104 a105 a106 a107 a108 a109 a110 a111 a112 a113 a114 a115 a116 a117 a118 a119 a120 a121 a122 a123 a124 a125 a126 a127 a128 a129 a130 a131 a132 a133 a134 a135 a136 a137 a138 a139 a140 a141 a142 a143 a144 a145 a146 a147 a148 a149 a150 a151 a152 a153 a154 a155 a156 a157 a158 a159 a160 a161 a162 a163 a164 a165 a166 a167 a168 a169 a170 a171 a172 a173 a174 a175 a176 a177 a178 a179 a180 a181 a182 a183 a184 a185 a186 a187 a188 a189 a190 a191 a192 a193 a194 a195 a196 a197 a198 a199 a200 a201 a202 a203 a204 a205 a206 a207 a208 a209 a210 a211 a212 a213 a214 a215 a216 a217 a218 a219 a220 a221 a222 a223 a224 a225 a226 a227 a228 a229 a230 a231 a232 a233 a234 a235 a236 a237 a238 a239 a240 a241 a242 a243 a244 a245 a246 a247 a248 a249 a250 a251 a252 a253 a254 a255 a256 a257 a258 a259 a260 a261 a262 a263 a264 a265 a266 a267 a268 a269 a270 a271 a272 a273 a274 a275 a276 a277 a278 a279 a280 a281 a282 a283 a284 a285 a286 a287 a288 a289 a290 a291 a292 a293 a294 a295 a296 a297 a298 a299 a300 a301 a302 a303 a304 a305 a306 a307 a308 a309 a310 a311 a312 a313 a314 a315 a316 a317 a318 a319 a320 a321 a322 a323 a324 a325 a326 a327 a328 a329 a330 a331 a332 a333 a334 a335 a336 a337 a338 a339 a340 a341 a342 a343 a344 a345 a346 a347 a348 a349 a350 a351 a352 a353 a354 a355 a356 a357 a358 a359 a360 a361 a362 a363 a364 a365 a366 a367 a368 a369 a370 : Value} {Q0 : Exit → Act → World → Prop}
    (hR : St w b lb r i s L F (.slice p4 m c4) W) (hm : L.length = m) (hi : i < 100) (hO : StepB W sb kk cls id size drop l) (hsb : ¬ F sb)
    (hX : ∀ (z4 z21 z22 z23 z24 z25 z26 z27 z199 z200 z201 z202 z203 z204 z205 z206 z207 z208 z209 z210 z211 z212 z213 z214 z215 z216 z217 z218 z219 z220 z221 z222 z223 z224 z225 z226 z227 z228 z229 z230 z231 z232 z233 z234 z235 z236 z237 z238 z239 z240 z241 z242 z243 z244 z245 z246 z247 z248 z249 z250 z251 z252 z253 z254 z255 z256 z257 z258 z259 z260 z261 z262 z263 z264 z265 z266 z267 z268 z269 z270 z271 z272 z273 z274 z275 z276 z277 z278 z279 z280 z281 z282 z283 z284 z285 z286 z287 z288 z289 z290 z291 z292 : Value) (F' : Nat → Prop) (W' : World), St w b lb r (i + 1) s L F' (.slice p4 m c4) W' → Q0 (.exit 6) ⟨#[a0, a1, a2, a3, z4, .pointer (some ⟨b, 0, none⟩), a6, a7, a8, a9, a10, a11, .slice p4 m c4, a13, a14, .pointer (some ⟨sb, 0, none⟩), a16, a17, a18, a19, a20, z21, z22, z23, z24, z25, z26, z27, a28, a29, a30, a31, a32, a33, a34, a35, a36, a37, a38, a39, a40, a41, a42, a43, a44, a45, a46, a47, a48, a49, a50, a51, a52, a53, a54, a55, a56, a57, a58, a59, a60, a61, a62, a63, a64, a65, a66, a67, a68, a69, a70, a71, a72, a73, a74, a75, a76, a77, a78, a79, a80, a81, a82, a83, a84, a85, a86, a87, a88, a89, a90, a91, a92, a93, a94, a95, a96, a97, a98, a99, a100, a101, a102, a103, a104, a105, a106, a107, a108, a109, a110, a111, a112, a113, a114, a115, a116, a117, a118, a119, a120, a121, a122, a123, a124, a125, a126, a127, a128, a129, a130, a131, a132, a133, a134, a135, a136, a137, a138, a139, a140, a141, a142, a143, a144, a145, a146, a147, a148, a149, a150, a151, a152, a153, a154, a155, a156, a157, a158, a159, a160, a161, a162, a163, a164, a165, a166, a167, a168, a169, a170, a171, a172, a173, a174, a175, a176, a177, a178, a179, a180, a181, a182, a183, a184, a185, a186, a187, a188, a189, a190, a191, a192, a193, a194, a195, a196, a197, a198, z199, z200, z201, z202, z203, z204, z205, z206, z207, z208, z209, z210, z211, z212, z213, z214, z215, z216, z217, z218, z219, z220, z221, z222, z223, z224, z225, z226, z227, z228, z229, z230, z231, z232, z233, z234, z235, z236, z237, z238, z239, z240, z241, z242, z243, z244, z245, z246, z247, z248, z249, z250, z251, z252, z253, z254, z255, z256, z257, z258, z259, z260, z261, z262, z263, z264, z265, z266, z267, z268, z269, z270, z271, z272, z273, z274, z275, z276, z277, z278, z279, z280, z281, z282, z283, z284, z285, z286, z287, z288, z289, z290, z291, z292, a293, a294, a295, a296, a297, a298, a299, a300, a301, a302, a303, a304, a305, a306, a307, a308, a309, a310, a311, a312, a313, a314, a315, a316, a317, a318, a319, a320, a321, a322, a323, a324, a325, a326, a327, a328, a329, a330, a331, a332, a333, a334, a335, a336, a337, a338, a339, a340, a341, a342, a343, a344, a345, a346, a347, a348, a349, a350, a351, a352, a353, a354, a355, a356, a357, a358, a359, a360, a361, a362, a363, a364, a365, a366, a367, a368, a369, a370], []⟩ W')
    (hP : ∀ c (ax : Act) (kx : Option Nat) (vx : Value) (wx : World), Q0 (.panic c) (ax.put kx vx) wx → Q0 (.panic c) ax wx)
    (hQ : ∀ (z4 z21 z22 z23 z24 z25 z26 z27 z199 z200 z201 z202 z203 z204 z205 z206 z207 z208 z209 z210 z211 z212 z213 z214 z215 z216 z217 z218 z219 z220 z221 z222 z223 z224 z225 z226 z227 z228 z229 z230 z231 z232 z233 z234 z235 z236 z237 z238 z239 z240 z241 z242 z243 z244 z245 z246 z247 z248 z249 z250 z251 z252 z253 z254 z255 z256 z257 z258 z259 z260 z261 z262 z263 z264 z265 z266 z267 z268 z269 z270 z271 z272 z273 z274 z275 z276 z277 z278 z279 z280 z281 z282 z283 z284 z285 z286 z287 z288 z289 z290 z291 z292 : Value) (s' : LS) (L' : List On) (F' : Nat → Prop) (p' : Option Addr) (m' c' : Nat) (W' : World), St w b lb r (i + 1) s' L' F' (.slice p' m' c') W' → L'.length = m' → Q0 .normal ⟨#[a0, a1, a2, a3, z4, .pointer (some ⟨b, 0, none⟩), a6, a7, a8, a9, a10, a11, (.slice p' m' c'), a13, a14, .pointer (some ⟨sb, 0, none⟩), a16, a17, a18, a19, a20, z21, z22, z23, z24, z25, z26, z27, a28, a29, a30, a31, a32, a33, a34, a35, a36, a37, a38, a39, a40, a41, a42, a43, a44, a45, a46, a47, a48, a49, a50, a51, a52, a53, a54, a55, a56, a57, a58, a59, a60, a61, a62, a63, a64, a65, a66, a67, a68, a69, a70, a71, a72, a73, a74, a75, a76, a77, a78, a79, a80, a81, a82, a83, a84, a85, a86, a87, a88, a89, a90, a91, a92, a93, a94, a95, a96, a97, a98, a99, a100, a101, a102, a103, a104, a105, a106, a107, a108, a109, a110, a111, a112, a113, a114, a115, a116, a117, a118, a119, a120, a121, a122, a123, a124, a125, a126, a127, a128, a129, a130, a131, a132, a133, a134, a135, a136, a137, a138, a139, a140, a141, a142, a143, a144, a145, a146, a147, a148, a149, a150, a151, a152, a153, a154, a155, a156, a157, a158, a159, a160, a161, a162, a163, a164, a165, a166, a167, a168, a169, a170, a171, a172, a173, a174, a175, a176, a177, a178, a179, a180, a181, a182, a183, a184, a185, a186, a187, a188, a189, a190, a191, a192, a193, a194, a195, a196, a197, a198, z199, z200, z201, z202, z203, z204, z205, z206, z207, z208, z209, z210, z211, z212, z213, z214, z215, z216, z217, z218, z219, z220, z221, z222, z223, z224, z225, z226, z227, z228, z229, z230, z231, z232, z233, z234, z235, z236, z237, z238, z239, z240, z241, z242, z243, z244, z245, z246, z247, z248, z249, z250, z251, z252, z253, z254, z255, z256, z257, z258, z259, z260, z261, z262, z263, z264, z265, z266, z267, z268, z269, z270, z271, z272, z273, z274, z275, z276, z277, z278, z279, z280, z281, z282, z283, z284, z285, z286, z287, z288, z289, z290, z291, z292, a293, a294, a295, a296, a297, a298, a299, a300, a301, a302, a303, a304, a305, a306, a307, a308, a309, a310, a311, a312, a313, a314, a315, a316, a317, a318, a319, a320, a321, a322, a323, a324, a325, a326, a327, a328, a329, a330, a331, a332, a333, a334, a335, a336, a337, a338, a339, a340, a341, a342, a343, a344, a345, a346, a347, a348, a349, a350, a351, a352, a353, a354, a355, a356, a357, a358, a359, a360, a361, a362, a363, a364, a365, a366, a367, a368, a369, a370], []⟩ W') :
    Code.wp Try.prog (partOf 46 0) Q0 ⟨#[a0, a1, a2, a3, a4, .pointer (some ⟨b, 0, none⟩), a6, a7, a8, a9, a10, a11, .slice p4 m c4, a13, a14, .pointer (some ⟨sb, 0, none⟩), a16, a17, a18, a19, a20, a21, a22, a23, a24, a25, a26, a27, a28, a29, a30, a31, a32, a33, a34, a35, a36, a37, a38, a39, a40, a41, a42, a43, a44, a45, a46, a47, a48, a49, a50, a51, a52, a53, a54, a55, a56, a57, a58, a59, a60, a61, a62, a63, a64, a65, a66, a67, a68, a69, a70, a71, a72, a73, a74, a75, a76, a77, a78, a79, a80, a81, a82, a83, a84, a85, a86, a87, a88, a89, a90, a91, a92, a93, a94, a95, a96, a97, a98, a99, a100, a101, a102, a103, a104, a105, a106, a107, a108, a109, a110, a111, a112, a113, a114, a115, a116, a117, a118, a119, a120, a121, a122, a123, a124, a125, a126, a127, a128, a129, a130, a131, a132, a133, a134, a135, a136, a137, a138, a139, a140, a141, a142, a143, a144, a145, a146, a147, a148, a149, a150, a151, a152, a153, a154, a155, a156, a157, a158, a159, a160, a161, a162, a163, a164, a165, a166, a167, a168, a169, a170, a171, a172, a173, a174, a175, a176, a177, a178, a179, a180, a181, a182, a183, a184, a185, a186, a187, a188, a189, a190, a191, a192, a193, a194, a195, a196, a197, a198, a199, a200, a201, a202, a203, a204, a205, a206, a207, a208, a209, a210, a211, a212, a213, a214, a215, a216, a217, a218, a219, a220, a221, a222, a223, a224, a225, a226, a227, a228, a229, a230, a231, a232, a233, a234, a235, a236, a237, a238, a239, a240, a241, a242, a243, a244, a245, a246, a247, a248, a249, a250, a251, a252, a253, a254, a255, a256, a257, a258, a259, a260, a261, a262, a263, a264, a265, a266, a267, a268, a269, a270, a271, a272, a273, a274, a275, a276, a277, a278, a279, a280, a281, a282, a283, a284, a285, a286, a287, a288, a289, a290, a291, a292, a293, a294, a295, a296, a297, a298, a299, a300, a301, a302, a303, a304, a305, a306, a307, a308, a309, a310, a311, a312, a313, a314, a315, a316, a317, a318, a319, a320, a321, a322, a323, a324, a325, a326, a327, a328, a329, a330, a331, a332, a333, a334, a335, a336, a337, a338, a339, a340, a341, a342, a343, a344, a345, a346, a347, a348, a349, a350, a351, a352, a353, a354, a355, a356, a357, a358, a359, a360, a361, a362, a363, a364, a365, a366, a367, a368, a369, a370], []⟩ W := by
  replace hQ := Lib.hid hQ
  replace hX := Lib.hid hX
  have HR := Lib.hid hR
  have HM := Lib.hid hm
  have HO := Lib.hid hO
  have HSB := Lib.hid hsb
  have HII := Lib.hid hi
  have HP := Lib.hid hP
  have hm2 : m ≤ 100 := by have := hR.ln; omega
  clear hR hm hO hsb hP
  conv => arg 2; whnf
  apply wp_seq_k
  intro KA hKA
  have HKA := Lib.hid hKA
  clear hKA
  go_wp2_with fail
  refine HKA.out _ _ ?_
  apply wp_seq_k
  intro KB hKB
  have HKB := Lib.hid hKB
  clear hKB
  go_wp2_with fail
  refine HKB.out _ _ ?_
  apply wp_seq_k
  intro K hK
  refine rn_best HR.out.st.row HM.out hm2 HO.out HR.out.cl (bAl (bRef W) _) (Nat.le_refl _) (heap_alloc_one' W _) (fun cx ax kx vx wx hx => HP.out cx ax kx vx wx hx) ?_
  intro z23 z24 z200 z201 z202 z203 z204 z205 z206 z207 z208 z209 z210 z211 z212 z213 z214 z215 z216 z217 z218 z219 z220 z221 z222 z223 z224 z225 z226 z227 z228 z229 z230 z231 z232 z233 z234 z235 z236 z237 z238 z239 z240 z241 z242 bb W2 e2 hb2
  refine hK _ _ ?_
  have HR2 := Lib.hid (HR.out.below hb2)
  have HO2 := Lib.hid (HO.out.below hb2)
  have E2 := Lib.hid e2
  obtain ⟨l5, l6, l7, l8, l9, l10, l11, l12⟩ := HO2.out.l8
  clear hK e2 hb2
  by_cases hbb : bb < 0
  · have d1 : decide (bb < 0) = true := decide_eq_true hbb
    have HD := Lib.hid (pickN HR2.out HM.out (by rw [E2.out]; exact hbb))
    have hE := fun W => neI (0, 0, false) W
    dsimp only at hE
    clear hbb
    go_wp2_with (first
      | (go_at_call 9; (with_reducible refine HD.out.mono ?_); rintro e W3 ⟨rfl, hl⟩; obtain ⟨F1, hR1, hO1⟩ := mid_of HR2.out HO2.out HSB.out hl; have HR1 := Lib.hid hR1; clear hR1 hO1 hl; try dsimp only))
    exact hX.out _ _ _ _ _ _ _ _ _ _ _ _ _ _ _ _ _ _ _ _ _ _ _ _ _ _ _ _ _ _ _ _ _ _ _ _ _ _ _ _ _ _ _ _ _ _ _ _ _ _ _ _ _ _ _ _ _ _ _ _ _ _ _ _ _ _ _ _ _ _ _ _ _ _ _ _ _ _ _ _ _ _ _ _ _ _ _ _ _ _ _ _ _ _ _ _ _ _ _ _ _ _ _ _ ((HR2.out.stay HR1.out).below (bAl (bRef _) _))
  · obtain ⟨t, rfl⟩ : ∃ t : Nat, bb = (t : Int) := ⟨bb.toNat, by omega⟩
    obtain ⟨c, x, T, hc8, hx, ht, hq, ha, hd⟩ := pickS HR2.out HM.out E2.out
    have d1 : decide ((t : Int) < 0) = false := decide_eq_false (by omega)
    have HD := Lib.hid hd
    have HX := Lib.hid hx
    have HC8 := Lib.hid hc8
    have HQ := Lib.hid hq
    have HA := Lib.hid ha
    obtain ⟨r1, rfl⟩ := HR.out.st.row.isrow (by have := HM.out; omega)
    obtain ⟨xi, xs, xd⟩ := x
    have hE := fun W => neI (xi, xs, xd) W
    dsimp only at hE HD
    have et : IntKind.i64.wrap (t : Int) = (t : Int) := by rw [IntKind.wrap_i64]; omega
    clear hbb hd hx hc8 hq ha
    refine wp_hideP (fun cx ax kx vx wx hx => HP.out cx ax kx vx wx hx) (fun Q2 hQ2 hP2 => ?_)
    go_upto_region 59 with (first
      | (go_at_call 9; (with_reducible refine HD.out.mono ?_); rintro e W3 ⟨rfl, hl⟩; obtain ⟨F1, hR1, hO1⟩ := mid_of HR2.out HO2.out HSB.out hl; have hro := fun o => (hR1.alloc o).row.cells3 HX.out; have c0 := fun o => (hro o).1; have c1 := fun o => (hro o).2.1; have c2 := fun o => (hro o).2.2.1; have c3 := fun o => (hro o).2.2.2; have HR1 := Lib.hid hR1; clear hR1 hO1 hl hro; try dsimp only at c0 c1 c2 c3 ⊢))
    go_quiet (fail)
    go_upto_region 61 with fail
    have hru := HR1.out.below (bDr (bAl (bRef W3) (.cells #[.int .i64 xi, .int .i64 xs, .bool xd] 30 (0, 0))) nq)
    have HRU := Lib.hid hru
    clear hru
    refine rn_erase HRU.out.row HRU.out.ln.bel.size HM.out hm2 ht (fun cx ax kx vx wx hx => hP2 cx ax kx vx wx hx) ?_
    intro z283 z284 z285 z286 z287 z288 z289 z290 z291 z292 p' m' c' W4 g1 g2 g3 g4
    refine hQ2 _ _ _ ?_
    exact hQ.out _ _ _ _ _ _ _ _ _ _ _ _ _ _ _ _ _ _ _ _ _ _ _ _ _ _ _ _ _ _ _ _ _ _ _ _ _ _ _ _ _ _ _ _ _ _ _ _ _ _ _ _ _ _ _ _ _ _ _ _ _ _ _ _ _ _ _ _ _ _ _ _ _ _ _ _ _ _ _ _ _ _ _ _ _ _ _ _ _ _ _ _ _ _ _ _ _ _ _ _ _ _ _ _ _ _ _ _ _ (HR2.out.pop HC8.out HQ.out HA.out (HRU.out.newRow g4 g2 g3)) g1

end Go.Proofs.Ytpgcadceljalpaa
