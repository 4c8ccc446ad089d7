/- LanesRuns in parts: a round of which is picked, whole. Written by gen_lnrun.py. -/
import Derived.Test.YtpgcadceljalpaaLnPartB
namespace Go.Proofs.Ytpgcadceljalpaa
open Go.RowKit Go.Joins Go.Deep

set_option maxRecDepth 1000000 in
set_option maxHeartbeats 16000000 in
theorem rn_bst {W0 W : World} {sb vb m k r c4 : Nat} {kk cls ids sizes : Int} {drops : Bool} {l : Nat → Int} {L : List On} {x : On} {f : Nat → Bool} {bv : Int} {a0 a1 a2 a3 a4 a5 a6 a7 a8 a9 a10 a11 a13 a14 a16 a17 a18 a19 a20 a23 a24 a25 a26 a27 a28 a29 a30 a31 a32 a33 a34 a35 a36 a37 a38 a39 a40 a41 a42 a43 a44 a45 a46 a47 a48 a49 a50 a51 a52 a53 a54 a55 a56 a57 a58 a59 a60 a61 a62 a63 a64 a65 a66 a67 a68 a69 a70 a71 a72 a73 a74 a75 a76 a77 a78 a79 a80 a81 a82 a83 a84 a85 a86 a87 a88 a89 a90 a91 a92 a93 a94 a95 a96 a97 a98 a99 a100 a101 a102 a103 a104 a105 a106 a107 a108 a109 a110 a111 a112 a113 a114 a115 a116 a117 a118 a119 a120 a121 a122 a123 a124 a125 a126 a127 a128 a129 a130 a131 a132 a133 a134 a135 a136 a137 a138 a139 a140 a141 a142 a143 a144 a145 a146 a147 a148 a149 a150 a151 a152 a153 a154 a155 a156 a157 a158 a159 a160 a161 a162 a163 a164 a165 a166 a167 a168 a169 a170 a171 a172 a173 a174 a175 a176 a177 a178 a179 a180 a181 a182 a183 a184 a185 a186 a187 a188 a189 a190 a191 a192 a193 a194 a195 a196 a197 a198 a199 a201 a203 a204 a205 a206 a207 a208 a209 a210 a211 a212 a213 a214 a215 a216 a217 a218 a219 a220 a221 a222 a223 a224 a225 a226 a227 a228 a229 a230 a231 a232 a233 a234 a235 a236 a237 a238 a239 a240 a241 a242 a243 a244 a245 a246 a247 a248 a249 a250 a251 a252 a253 a254 a255 a256 a257 a258 a259 a260 a261 a262 a263 a264 a265 a266 a267 a268 a269 a270 a271 a272 a273 a274 a275 a276 a277 a278 a279 a280 a281 a282 a283 a284 a285 a286 a287 a288 a289 a290 a291 a292 a293 a294 a295 a296 a297 a298 a299 a300 a301 a302 a303 a304 a305 a306 a307 a308 a309 a310 a311 a312 a313 a314 a315 a316 a317 a318 a319 a320 a321 a322 a323 a324 a325 a326 a327 a328 a329 a330 a331 a332 a333 a334 a335 a336 a337 a338 a339 a340 a341 a342 a343 a344 a345 a346 a347 a348 a349 a350 a351 a352 a353 a354 a355 a356 a357 a358 a359 a360 a361 a362 a363 a364 a365 a366 a367 a368 a369 a370 : Value} {Q0 : Exit → Act → World → Prop}
    (hb : Below W0.heap.size W0 W) (hvb : W0.heap.size ≤ vb) (hv : W.heap[vb]? = some (b8 f)) (hf : ∀ c, c < 8 → f c = decide (0 < cntN L (c : Int) k)) (hx : L[k]? = some x) (g : k < m) (hm : L.length = m) (hm2 : m ≤ 100) (hcl : ∀ y ∈ L, 0 ≤ y.1 ∧ y.1 < 8 ∧ 0 ≤ y.2.2.1 ∧ y.2.2.1 ≤ 1600) (hO : StepB W sb kk cls ids sizes drops l) (hc : ∀ (j : Nat) y, L[j]? = some y → W.cell? ⟨r, j * 4, none⟩ = some (.int .i64 y.1) ∧ W.cell? ⟨r, j * 4 + 1, none⟩ = some (.int .i64 y.2.1) ∧ W.cell? ⟨r, j * 4 + 2, none⟩ = some (.int .i64 y.2.2.1) ∧ W.cell? ⟨r, j * 4 + 3, none⟩ = some (.bool y.2.2.2)) (hb1 : bstN L l k = bv)
    (hP : ∀ c (ax : Act) (kx : Option Nat) (vx : Value) (wx : World), Q0 (.panic c) (ax.put kx vx) wx → Q0 (.panic c) ax wx)
    (hQ : ∀ (z23 z24 z204 z205 z206 z207 z208 z209 z210 z211 z212 z213 z214 z215 z216 z217 z218 z219 z220 z221 z222 z223 z224 z225 z226 z227 z228 z229 z230 z231 z232 z233 z234 z235 z236 z237 z238 z239 z240 z241 : Value) (bv1 : Int) (W' : World), bstN L l (k + 1) = bv1 → Below W0.heap.size W0 W' → W'.heap[vb]? = some (b8 (upd f x.1.toNat true)) → Q0 .normal ⟨#[a0, a1, a2, a3, a4, a5, a6, a7, a8, a9, a10, a11, .slice (some ⟨r, 0, none⟩) m c4, a13, a14, .pointer (some ⟨sb, 0, none⟩), a16, a17, a18, a19, a20, .int .i64 bv1, .pointer (some ⟨vb, 0, none⟩), z23, z24, a25, a26, a27, a28, a29, a30, a31, a32, a33, a34, a35, a36, a37, a38, a39, a40, a41, a42, a43, a44, a45, a46, a47, a48, a49, a50, a51, a52, a53, a54, a55, a56, a57, a58, a59, a60, a61, a62, a63, a64, a65, a66, a67, a68, a69, a70, a71, a72, a73, a74, a75, a76, a77, a78, a79, a80, a81, a82, a83, a84, a85, a86, a87, a88, a89, a90, a91, a92, a93, a94, a95, a96, a97, a98, a99, a100, a101, a102, a103, a104, a105, a106, a107, a108, a109, a110, a111, a112, a113, a114, a115, a116, a117, a118, a119, a120, a121, a122, a123, a124, a125, a126, a127, a128, a129, a130, a131, a132, a133, a134, a135, a136, a137, a138, a139, a140, a141, a142, a143, a144, a145, a146, a147, a148, a149, a150, a151, a152, a153, a154, a155, a156, a157, a158, a159, a160, a161, a162, a163, a164, a165, a166, a167, a168, a169, a170, a171, a172, a173, a174, a175, a176, a177, a178, a179, a180, a181, a182, a183, a184, a185, a186, a187, a188, a189, a190, a191, a192, a193, a194, a195, a196, a197, a198, a199, .slice (some ⟨r, 0, none⟩) m c4, a201, .int .i64 (k : Int), a203, z204, z205, z206, z207, z208, z209, z210, z211, z212, z213, z214, z215, z216, z217, z218, z219, z220, z221, z222, z223, z224, z225, z226, z227, z228, z229, z230, z231, z232, z233, z234, z235, z236, z237, z238, z239, z240, z241, a242, a243, a244, a245, a246, a247, a248, a249, a250, a251, a252, a253, a254, a255, a256, a257, a258, a259, a260, a261, a262, a263, a264, a265, a266, a267, a268, a269, a270, a271, a272, a273, a274, a275, a276, a277, a278, a279, a280, a281, a282, a283, a284, a285, a286, a287, a288, a289, a290, a291, a292, a293, a294, a295, a296, a297, a298, a299, a300, a301, a302, a303, a304, a305, a306, a307, a308, a309, a310, a311, a312, a313, a314, a315, a316, a317, a318, a319, a320, a321, a322, a323, a324, a325, a326, a327, a328, a329, a330, a331, a332, a333, a334, a335, a336, a337, a338, a339, a340, a341, a342, a343, a344, a345, a346, a347, a348, a349, a350, a351, a352, a353, a354, a355, a356, a357, a358, a359, a360, a361, a362, a363, a364, a365, a366, a367, a368, a369, a370], []⟩ W') :
    Code.wp Try.prog (partOf 50 1) Q0 ⟨#[a0, a1, a2, a3, a4, a5, a6, a7, a8, a9, a10, a11, .slice (some ⟨r, 0, none⟩) m c4, a13, a14, .pointer (some ⟨sb, 0, none⟩), a16, a17, a18, a19, a20, .int .i64 bv, .pointer (some ⟨vb, 0, none⟩), a23, a24, a25, a26, a27, a28, a29, a30, a31, a32, a33, a34, a35, a36, a37, a38, a39, a40, a41, a42, a43, a44, a45, a46, a47, a48, a49, a50, a51, a52, a53, a54, a55, a56, a57, a58, a59, a60, a61, a62, a63, a64, a65, a66, a67, a68, a69, a70, a71, a72, a73, a74, a75, a76, a77, a78, a79, a80, a81, a82, a83, a84, a85, a86, a87, a88, a89, a90, a91, a92, a93, a94, a95, a96, a97, a98, a99, a100, a101, a102, a103, a104, a105, a106, a107, a108, a109, a110, a111, a112, a113, a114, a115, a116, a117, a118, a119, a120, a121, a122, a123, a124, a125, a126, a127, a128, a129, a130, a131, a132, a133, a134, a135, a136, a137, a138, a139, a140, a141, a142, a143, a144, a145, a146, a147, a148, a149, a150, a151, a152, a153, a154, a155, a156, a157, a158, a159, a160, a161, a162, a163, a164, a165, a166, a167, a168, a169, a170, a171, a172, a173, a174, a175, a176, a177, a178, a179, a180, a181, a182, a183, a184, a185, a186, a187, a188, a189, a190, a191, a192, a193, a194, a195, a196, a197, a198, a199, .slice (some ⟨r, 0, none⟩) m c4, a201, .int .i64 (k : Int), a203, a204, a205, a206, a207, a208, a209, a210, a211, a212, a213, a214, a215, a216, a217, a218, a219, a220, a221, a222, a223, a224, a225, a226, a227, a228, a229, a230, a231, a232, a233, a234, a235, a236, a237, a238, a239, a240, a241, a242, a243, a244, a245, a246, a247, a248, a249, a250, a251, a252, a253, a254, a255, a256, a257, a258, a259, a260, a261, a262, a263, a264, a265, a266, a267, a268, a269, a270, a271, a272, a273, a274, a275, a276, a277, a278, a279, a280, a281, a282, a283, a284, a285, a286, a287, a288, a289, a290, a291, a292, a293, a294, a295, a296, a297, a298, a299, a300, a301, a302, a303, a304, a305, a306, a307, a308, a309, a310, a311, a312, a313, a314, a315, a316, a317, a318, a319, a320, a321, a322, a323, a324, a325, a326, a327, a328, a329, a330, a331, a332, a333, a334, a335, a336, a337, a338, a339, a340, a341, a342, a343, a344, a345, a346, a347, a348, a349, a350, a351, a352, a353, a354, a355, a356, a357, a358, a359, a360, a361, a362, a363, a364, a365, a366, a367, a368, a369, a370], []⟩ W := by
  replace hQ := Lib.hid hQ
  replace hQ := hQ.out
  obtain ⟨c, hcx⟩ : ∃ c : Nat, x.1 = (c : Int) := ⟨x.1.toNat, by have := hcl x (List.mem_iff_getElem?.2 ⟨_, hx⟩); omega⟩
  obtain ⟨q0, q1, q2, q3⟩ := hcl x (List.mem_iff_getElem?.2 ⟨_, hx⟩)
  have hc8 : c < 8 := by omega
  have ec : x.1.toNat = c := by omega
  rw [ec] at hQ
  obtain ⟨c0, c1, c2, c3⟩ := hc k x hx
  rw [hcx] at c0
  have hfc := hf c hc8
  have hl : ∀ o, (W.alloc o).cell? ⟨sb, 5 + c, none⟩ = some (.int .i64 (l c)) := fun o => (hO.below (bAl (bRef W) o)).left hc8
  have hk := bstN_succ (left := l) hx
  rw [hb1] at hk
  by_cases hs : 0 < cntN L (c : Int) k
  · have ht : ¬ takesN L l bv k x := fun h => by have := h.1; rw [hcx] at this; omega
    rw [if_neg ht] at hk
    rw [hk] at hQ
    replace hQ := fun z23 z24 z204 z205 z206 z207 z208 z209 z210 z211 z212 z213 z214 z215 z216 z217 z218 z219 z220 z221 z222 z223 z224 z225 z226 z227 z228 z229 z230 z231 z232 z233 z234 z235 z236 z237 z238 z239 z240 z241 W1 => hQ z23 z24 z204 z205 z206 z207 z208 z209 z210 z211 z212 z213 z214 z215 z216 z217 z218 z219 z220 z221 z222 z223 z224 z225 z226 z227 z228 z229 z230 z231 z232 z233 z234 z235 z236 z237 z238 z239 z240 z241 _ W1 rfl
    exact rn_bst_a hb hvb hv hc8 rfl g hm2 q2 q3 hl c0 c1 c2 c3 (hfc.trans (decide_eq_true hs)) hP hQ
  have hsf : f c = false := hfc.trans (decide_eq_false hs)
  by_cases hfit : 8 * x.2.2.1 ≤ l c
  · have hfi : fitsN l x := by unfold fitsN; rw [ec]; exact hfit
    have h0 : cntN L x.1 k = 0 := by rw [hcx]; omega
    rcases bstN_spec (L := L) (left := l) k (by omega) with ⟨h1, _⟩ | ⟨t, d, y, ht, h1, hfst, _, _⟩
    · have hbv : bv = -1 := hb1.symm.trans h1
      have ht : takesN L l bv k x := ⟨h0, hfi, .inl (by omega)⟩
      rw [if_pos ht] at hk
      rw [hk] at hQ
      replace hQ := fun z23 z24 z204 z205 z206 z207 z208 z209 z210 z211 z212 z213 z214 z215 z216 z217 z218 z219 z220 z221 z222 z223 z224 z225 z226 z227 z228 z229 z230 z231 z232 z233 z234 z235 z236 z237 z238 z239 z240 z241 W1 => hQ z23 z24 z204 z205 z206 z207 z208 z209 z210 z211 z212 z213 z214 z215 z216 z217 z218 z219 z220 z221 z222 z223 z224 z225 z226 z227 z228 z229 z230 z231 z232 z233 z234 z235 z236 z237 z238 z239 z240 z241 _ W1 rfl
      exact rn_bst_c hb hvb hv hc8 rfl g hm2 q2 q3 hl c0 c1 c2 c3 hsf hfit hbv hP hQ
    · have hbv : bv = (t : Int) := hb1.symm.trans h1
      obtain ⟨y0, _⟩ := hc t y hfst.1
      have qy := hcl y (List.mem_iff_getElem?.2 ⟨_, hfst.1⟩)
      obtain ⟨dn, hdn⟩ : ∃ dn : Nat, y.1 = (dn : Int) := ⟨y.1.toNat, by omega⟩
      rw [hdn] at y0
      have hT : ∀ o, (W.alloc o).cell? ⟨r, t * 4, none⟩ = some (.int .i64 (dn : Int)) := fun o => (World.cell?_of_block (heap_alloc_old W o (block_lt_cell y0))).trans y0
      have hcls : clsN L bv.toNat = (dn : Int) := by rw [hbv, show ((t : Int)).toNat = t by omega, hfst.cls, ← hfst.2.1, hdn]
      by_cases hd : dn < c
      · have ht2 : takesN L l bv k x := ⟨h0, hfi, .inr (by rw [hcls, hcx]; omega)⟩
        rw [if_pos ht2] at hk
        rw [hk] at hQ
        replace hQ := fun z23 z24 z204 z205 z206 z207 z208 z209 z210 z211 z212 z213 z214 z215 z216 z217 z218 z219 z220 z221 z222 z223 z224 z225 z226 z227 z228 z229 z230 z231 z232 z233 z234 z235 z236 z237 z238 z239 z240 z241 W1 => hQ z23 z24 z204 z205 z206 z207 z208 z209 z210 z211 z212 z213 z214 z215 z216 z217 z218 z219 z220 z221 z222 z223 z224 z225 z226 z227 z228 z229 z230 z231 z232 z233 z234 z235 z236 z237 z238 z239 z240 z241 _ W1 rfl
        exact rn_bst_e hb hvb hv hc8 rfl g hm2 q2 q3 hl c0 c1 c2 c3 hsf hfit hbv (by omega) hT hd hP hQ
      · have ht2 : ¬ takesN L l bv k x := fun h => by
          rcases h.2.2 with h | h
          · omega
          · rw [hcls, hcx] at h; omega
        rw [if_neg ht2, hbv] at hk
        rw [hk] at hQ
        replace hQ := fun z23 z24 z204 z205 z206 z207 z208 z209 z210 z211 z212 z213 z214 z215 z216 z217 z218 z219 z220 z221 z222 z223 z224 z225 z226 z227 z228 z229 z230 z231 z232 z233 z234 z235 z236 z237 z238 z239 z240 z241 W1 => hQ z23 z24 z204 z205 z206 z207 z208 z209 z210 z211 z212 z213 z214 z215 z216 z217 z218 z219 z220 z221 z222 z223 z224 z225 z226 z227 z228 z229 z230 z231 z232 z233 z234 z235 z236 z237 z238 z239 z240 z241 _ W1 rfl
        exact rn_bst_d hb hvb hv hc8 rfl g hm2 q2 q3 hl c0 c1 c2 c3 hsf hfit hbv (by omega) hT hd hP hQ
  · have ht : ¬ takesN L l bv k x := fun h => by
      have h2 := h.2.1
      unfold fitsN at h2
      rw [ec] at h2
      exact hfit h2
    rw [if_neg ht] at hk
    rw [hk] at hQ
    replace hQ := fun z23 z24 z204 z205 z206 z207 z208 z209 z210 z211 z212 z213 z214 z215 z216 z217 z218 z219 z220 z221 z222 z223 z224 z225 z226 z227 z228 z229 z230 z231 z232 z233 z234 z235 z236 z237 z238 z239 z240 z241 W1 => hQ z23 z24 z204 z205 z206 z207 z208 z209 z210 z211 z212 z213 z214 z215 z216 z217 z218 z219 z220 z221 z222 z223 z224 z225 z226 z227 z228 z229 z230 z231 z232 z233 z234 z235 z236 z237 z238 z239 z240 z241 _ W1 rfl
    exact rn_bst_b hb hvb hv hc8 rfl g hm2 q2 q3 hl c0 c1 c2 c3 hsf hfit hP hQ

end Go.Proofs.Ytpgcadceljalpaa
