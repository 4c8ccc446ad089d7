/- LanesRuns in parts: which is picked. Written by gen_lnrun.py. -/
import Derived.Test.YtpgcadceljalpaaLnPartC
namespace Go.Proofs.Ytpgcadceljalpaa
open Go.RowKit Go.Joins Go.Deep

theorem seen_next {L : List On} {k : Nat} {x : On} {f : Nat → Bool} (hx : L[k]? = some x) (h0 : 0 ≤ x.1) (hf : ∀ c, c < 8 → f c = decide (0 < cntN L (c : Int) k)) : ∀ c, c < 8 → upd f x.1.toNat true c = decide (0 < cntN L (c : Int) (k + 1)) := fun c hc => by
  rw [cntN_succ hx]
  by_cases e : c = x.1.toNat
  · subst e
    rw [upd_same, if_pos (by omega)]
    exact (decide_eq_true (by omega)).symm
  · rw [upd_other _ _ e, if_neg (by omega)]
    exact hf c hc
def BstRel (W0 : World) (vb : Nat) (l : Nat → Int) (L : List On) (m : Nat) (bv kv : Value) (wr : World) : Prop := ∃ (k : Nat) (f : Nat → Bool) (b : Int), bv = .int .i64 b ∧ bstN L l k = b ∧ kv = .int .i64 (k : Int) ∧ k ≤ m ∧ Below W0.heap.size W0 wr ∧ wr.heap[vb]? = some (b8 f) ∧ ∀ c, c < 8 → f c = decide (0 < cntN L (c : Int) k)
set_option maxRecDepth 1000000 in
set_option maxHeartbeats 16000000 in
theorem rn_best {W0 W : World} {B sb vb m c4 : Nat} {kk cls id size : Int} {drop : Bool} {l : Nat → Int} {L : List On} {p4 : Option Addr} {a0 a1 a2 a3 a4 a5 a6 a7 a8 a9 a10 a11 a13 a14 a16 a17 a18 a19 a20 a23 a24 a25 a26 a27 a28 a29 a30 a31 a32 a33 a34 a35 a36 a37 a38 a39 a40 a41 a42 a43 a44 a45 a46 a47 a48 a49 a50 a51 a52 a53 a54 a55 a56 a57 a58 a59 a60 a61 a62 a63 a64 a65 a66 a67 a68 a69 a70 a71 a72 a73 a74 a75 a76 a77 a78 a79 a80 a81 a82 a83 a84 a85 a86 a87 a88 a89 a90 a91 a92 a93 a94 a95 a96 a97 a98 a99 a100 a101 a102 a103 a104 a105 a106 a107 a108 a109 a110 a111 a112 a113 a114 a115 a116 a117 a118 a119 a120 a121 a122 a123 a124 a125 a126 a127 a128 a129 a130 a131 a132 a133 a134 a135 a136 a137 a138 a139 a140 a141 a142 a143 a144 a145 a146 a147 a148 a149 a150 a151 a152 a153 a154 a155 a156 a157 a158 a159 a160 a161 a162 a163 a164 a165 a166 a167 a168 a169 a170 a171 a172 a173 a174 a175 a176 a177 a178 a179 a180 a181 a182 a183 a184 a185 a186 a187 a188 a189 a190 a191 a192 a193 a194 a195 a196 a197 a198 a199 a200 a201 a202 a203 a204 a205 a206 a207 a208 a209 a210 a211 a212 a213 a214 a215 a216 a217 a218 a219 a220 a221 a222 a223 a224 a225 a226 a227 a228 a229 a230 a231 a232 a233 a234 a235 a236 a237 a238 a239 a240 a241 a242 a243 a244 a245 a246 a247 a248 a249 a250 a251 a252 a253 a254 a255 a256 a257 a258 a259 a260 a261 a262 a263 a264 a265 a266 a267 a268 a269 a270 a271 a272 a273 a274 a275 a276 a277 a278 a279 a280 a281 a282 a283 a284 a285 a286 a287 a288 a289 a290 a291 a292 a293 a294 a295 a296 a297 a298 a299 a300 a301 a302 a303 a304 a305 a306 a307 a308 a309 a310 a311 a312 a313 a314 a315 a316 a317 a318 a319 a320 a321 a322 a323 a324 a325 a326 a327 a328 a329 a330 a331 a332 a333 a334 a335 a336 a337 a338 a339 a340 a341 a342 a343 a344 a345 a346 a347 a348 a349 a350 a351 a352 a353 a354 a355 a356 a357 a358 a359 a360 a361 a362 a363 a364 a365 a366 a367 a368 a369 a370 : Value} {Q0 : Exit → Act → World → Prop}
    (hI : Rw B W0 (.slice p4 m c4) L) (hm : L.length = m) (hm2 : m ≤ 100) (hO : StepB W0 sb kk cls id size drop l) (hcl : ∀ y ∈ L, 0 ≤ y.1 ∧ y.1 < 8 ∧ 0 ≤ y.2.2.1 ∧ y.2.2.1 ≤ 1600) (hb : Below W0.heap.size W0 W) (hvb : W0.heap.size ≤ vb) (hv : W.heap[vb]? = some (b8 (fun _ => false)))
    (hP : ∀ c (ax : Act) (kx : Option Nat) (vx : Value) (wx : World), Q0 (.panic c) (ax.put kx vx) wx → Q0 (.panic c) ax wx)
    (hQ : ∀ (z23 z24 z200 z201 z202 z203 z204 z205 z206 z207 z208 z209 z210 z211 z212 z213 z214 z215 z216 z217 z218 z219 z220 z221 z222 z223 z224 z225 z226 z227 z228 z229 z230 z231 z232 z233 z234 z235 z236 z237 z238 z239 z240 z241 z242 : Value) (bb : Int) (W' : World), bstN L l m = bb → Below W0.heap.size W0 W' → Q0 .normal ⟨#[a0, a1, a2, a3, a4, a5, a6, a7, a8, a9, a10, a11, .slice p4 m c4, a13, a14, .pointer (some ⟨sb, 0, none⟩), a16, a17, a18, a19, a20, .int .i64 bb, .pointer (some ⟨vb, 0, none⟩), z23, z24, a25, a26, a27, a28, a29, a30, a31, a32, a33, a34, a35, a36, a37, a38, a39, a40, a41, a42, a43, a44, a45, a46, a47, a48, a49, a50, a51, a52, a53, a54, a55, a56, a57, a58, a59, a60, a61, a62, a63, a64, a65, a66, a67, a68, a69, a70, a71, a72, a73, a74, a75, a76, a77, a78, a79, a80, a81, a82, a83, a84, a85, a86, a87, a88, a89, a90, a91, a92, a93, a94, a95, a96, a97, a98, a99, a100, a101, a102, a103, a104, a105, a106, a107, a108, a109, a110, a111, a112, a113, a114, a115, a116, a117, a118, a119, a120, a121, a122, a123, a124, a125, a126, a127, a128, a129, a130, a131, a132, a133, a134, a135, a136, a137, a138, a139, a140, a141, a142, a143, a144, a145, a146, a147, a148, a149, a150, a151, a152, a153, a154, a155, a156, a157, a158, a159, a160, a161, a162, a163, a164, a165, a166, a167, a168, a169, a170, a171, a172, a173, a174, a175, a176, a177, a178, a179, a180, a181, a182, a183, a184, a185, a186, a187, a188, a189, a190, a191, a192, a193, a194, a195, a196, a197, a198, a199, z200, z201, z202, z203, z204, z205, z206, z207, z208, z209, z210, z211, z212, z213, z214, z215, z216, z217, z218, z219, z220, z221, z222, z223, z224, z225, z226, z227, z228, z229, z230, z231, z232, z233, z234, z235, z236, z237, z238, z239, z240, z241, z242, a243, a244, a245, a246, a247, a248, a249, a250, a251, a252, a253, a254, a255, a256, a257, a258, a259, a260, a261, a262, a263, a264, a265, a266, a267, a268, a269, a270, a271, a272, a273, a274, a275, a276, a277, a278, a279, a280, a281, a282, a283, a284, a285, a286, a287, a288, a289, a290, a291, a292, a293, a294, a295, a296, a297, a298, a299, a300, a301, a302, a303, a304, a305, a306, a307, a308, a309, a310, a311, a312, a313, a314, a315, a316, a317, a318, a319, a320, a321, a322, a323, a324, a325, a326, a327, a328, a329, a330, a331, a332, a333, a334, a335, a336, a337, a338, a339, a340, a341, a342, a343, a344, a345, a346, a347, a348, a349, a350, a351, a352, a353, a354, a355, a356, a357, a358, a359, a360, a361, a362, a363, a364, a365, a366, a367, a368, a369, a370], []⟩ W') :
    Code.wp Try.prog (partOf 48 1) Q0 ⟨#[a0, a1, a2, a3, a4, a5, a6, a7, a8, a9, a10, a11, .slice p4 m c4, a13, a14, .pointer (some ⟨sb, 0, none⟩), a16, a17, a18, a19, a20, .int .i64 (-1), .pointer (some ⟨vb, 0, none⟩), a23, a24, a25, a26, a27, a28, a29, a30, a31, a32, a33, a34, a35, a36, a37, a38, a39, a40, a41, a42, a43, a44, a45, a46, a47, a48, a49, a50, a51, a52, a53, a54, a55, a56, a57, a58, a59, a60, a61, a62, a63, a64, a65, a66, a67, a68, a69, a70, a71, a72, a73, a74, a75, a76, a77, a78, a79, a80, a81, a82, a83, a84, a85, a86, a87, a88, a89, a90, a91, a92, a93, a94, a95, a96, a97, a98, a99, a100, a101, a102, a103, a104, a105, a106, a107, a108, a109, a110, a111, a112, a113, a114, a115, a116, a117, a118, a119, a120, a121, a122, a123, a124, a125, a126, a127, a128, a129, a130, a131, a132, a133, a134, a135, a136, a137, a138, a139, a140, a141, a142, a143, a144, a145, a146, a147, a148, a149, a150, a151, a152, a153, a154, a155, a156, a157, a158, a159, a160, a161, a162, a163, a164, a165, a166, a167, a168, a169, a170, a171, a172, a173, a174, a175, a176, a177, a178, a179, a180, a181, a182, a183, a184, a185, a186, a187, a188, a189, a190, a191, a192, a193, a194, a195, a196, a197, a198, a199, a200, a201, a202, a203, a204, a205, a206, a207, a208, a209, a210, a211, a212, a213, a214, a215, a216, a217, a218, a219, a220, a221, a222, a223, a224, a225, a226, a227, a228, a229, a230, a231, a232, a233, a234, a235, a236, a237, a238, a239, a240, a241, a242, a243, a244, a245, a246, a247, a248, a249, a250, a251, a252, a253, a254, a255, a256, a257, a258, a259, a260, a261, a262, a263, a264, a265, a266, a267, a268, a269, a270, a271, a272, a273, a274, a275, a276, a277, a278, a279, a280, a281, a282, a283, a284, a285, a286, a287, a288, a289, a290, a291, a292, a293, a294, a295, a296, a297, a298, a299, a300, a301, a302, a303, a304, a305, a306, a307, a308, a309, a310, a311, a312, a313, a314, a315, a316, a317, a318, a319, a320, a321, a322, a323, a324, a325, a326, a327, a328, a329, a330, a331, a332, a333, a334, a335, a336, a337, a338, a339, a340, a341, a342, a343, a344, a345, a346, a347, a348, a349, a350, a351, a352, a353, a354, a355, a356, a357, a358, a359, a360, a361, a362, a363, a364, a365, a366, a367, a368, a369, a370], []⟩ W := by
  replace hQ := Lib.hid hQ
  have HI := Lib.hid hI
  have HO := Lib.hid hO
  have HM := Lib.hid hm
  have HC := Lib.hid hcl
  have HB0 := Lib.hid hb
  have HV := Lib.hid hv
  have HVB := Lib.hid hvb
  clear hI hO hm hcl hb hv hvb
  conv => arg 2; whnf
  go_wp2_with fail
  go_loopw [21, 202] (fun bv kv wr => BstRel W0 vb l L m bv kv wr) (fun _ kv _ => m - (intOf kv).toNat)
  case atStart => exact ⟨0, fun _ => false, -1, rfl, rfl, rfl, by omega, HB0.out, HV.out, fun c hc => rfl⟩
  case round =>
    obtain ⟨k, f, bk, rfl, hbk, rfl, hk, hb, hv, hf⟩ := hrel
    have HBK := Lib.hid hbk
    clear hbk
    rcases Nat.lt_or_ge k m with g | g
    · have d0 : decide ((k : Int) < (m : Int)) = true := decide_eq_true (by omega)
      have HB := Lib.hid hb
      have HVV := Lib.hid hv
      have HF := Lib.hid hf
      obtain ⟨r, cap, e, _, _, _, _, hc⟩ := (HI.out.below hb).row (by have := HM.out; omega)
      injection e with e1 e2 e3
      subst e1
      subst e3
      obtain ⟨x, hx⟩ : ∃ x, L[k]? = some x := ⟨_, List.getElem?_eq_getElem (by have := HM.out; omega)⟩
      have HX := Lib.hid hx
      have HCC := Lib.hid hc
      have ec : wrap64 ((k : Int) + 1) = ((k + 1 : Nat) : Int) := by unfold wrap64; omega
      clear hb hc e2 hv hf hx
      refine wp_hideP (fun cx ax kx vx wx hx => hP cx ax kx vx wx hx) (fun Q2 hQ2 hP2 => ?_)
      go_upto_if 203 with (fail)
      refine wp_cond_true (by go_simp) ?_
      go_step
      go_step
      go_step
      apply wp_seq_k
      intro K hK
      refine rn_bst HB.out HVB.out HVV.out HF.out HX.out g HM.out hm2 HC.out (HO.out.below HB.out) HCC.out HBK.out (fun cx ax kx vx wx hx => hP2 cx ax kx vx wx hx) ?_
      intro z23 z24 z204 z205 z206 z207 z208 z209 z210 z211 z212 z213 z214 z215 z216 z217 z218 z219 z220 z221 z222 z223 z224 z225 z226 z227 z228 z229 z230 z231 z232 z233 z234 z235 z236 z237 z238 z239 z240 z241 bn W1 e1 hb1 hv1
      refine hK _ _ ?_
      have HB1 := Lib.hid hb1
      have HV1 := Lib.hid hv1
      have HE1 := Lib.hid e1
      clear hb1 hv1 hK e1 d0
      go_wp2_with fail
      refine hQ2 _ _ _ ?_
      dsimp only [Exit.then]
      go_roundw
      case rel => exact ⟨k + 1, _, bn, rfl, HE1.out, by go_num, by omega, HB1.out, HV1.out, seen_next HX.out (HC.out x (List.mem_iff_getElem?.2 ⟨_, HX.out⟩)).1 HF.out⟩
      case measure => simp [intOf]; omega
    · obtain rfl : k = m := by omega
      have d0 : decide ((k : Int) < (k : Int)) = false := decide_eq_false (by omega)
      have HB := Lib.hid hb
      have HVV := Lib.hid hv
      clear hb hv
      go_wp2_with fail
      exact hQ.out _ _ _ _ _ _ _ _ _ _ _ _ _ _ _ _ _ _ _ _ _ _ _ _ _ _ _ _ _ _ _ _ _ _ _ _ _ _ _ _ _ _ _ _ _ _ _ HBK.out HB.out

end Go.Proofs.Ytpgcadceljalpaa
