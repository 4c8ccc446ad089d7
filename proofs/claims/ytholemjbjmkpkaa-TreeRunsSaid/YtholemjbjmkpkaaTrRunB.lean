/- TreeRuns: the list for layer 19's reference, in a declaration of its own. Written by gen_trrunb.py. -/
import Derived.Test.YtholemjbjmkpkaaTrRunA
import Derived.Test.YtholemjbjmkpkaaBtHApp
namespace Go.Proofs.Ytholemjbjmkpkaa
open Go.RowKit Go.Joins Go.Deep

theorem at_loadE {ops : Array Oper} {rest : List Oper} {d : Option Tmp} {x : Operand} {t : TypeId} {s : String} {af : Array Edge} {gd : Option (Nat × Bool)} {a : Act} {w : World} {Q : Exit → Act → World → Prop}
    (h : wpList Try.prog ops Q (⟨d, .load 68 x, t, s, af, gd⟩ :: rest) a w) : wpList Try.prog ops Q (⟨d, .load 68 x, t, s, af, gd⟩ :: rest) a w := h
theorem at_storeE {ops : Array Oper} {rest : List Oper} {d : Option Tmp} {x y : Operand} {t : TypeId} {s : String} {af : Array Edge} {a : Act} {w : World} {Q : Exit → Act → World → Prop}
    (h : wpList Try.prog ops Q (⟨d, .store 68 x y, t, s, af, none⟩ :: rest) a w) : wpList Try.prog ops Q (⟨d, .store 68 x y, t, s, af, none⟩ :: rest) a w := h
/-- What layer 19's reference is handed, so far. -/
def hsL (F : Nat → Ke) (now most : Int) (n : Nat) : List Hd := (List.range n).map fun k => (F k).hd now most
theorem hsL_len (F : Nat → Ke) (now most : Int) (n : Nat) : (hsL F now most n).length = n := by simp [hsL]
theorem hsL_snoc (F : Nat → Ke) (now most : Int) (n : Nat) : hsL F now most n ++ [(F n).hd now most] = hsL F now most (n + 1) := by simp [hsL, List.range_succ]
/-- All blocks of other types are as they were. -/
structure ButTy (e : TypeId) (B : Nat) (w w' : World) : Prop where
  bel : Below B w w'
  size : w.heap.size ≤ w'.heap.size
  block : ∀ (k : Nat) (cs : Array Value) (ty : TypeId) (fr : Nat × Nat), w.heap[k]? = some (.cells cs ty fr) → ty ≠ e → w'.heap[k]? = w.heap[k]?
theorem ButTy.refl (e : TypeId) (B : Nat) (w : World) : ButTy e B w w := ⟨Below.refl _ _, Nat.le_refl _, fun _ _ _ _ _ _ => rfl⟩
theorem ButTy.trans {e : TypeId} {B : Nat} {w w1 w2 : World} (h : ButTy e B w w1) (k : ButTy e B w1 w2) : ButTy e B w w2 :=
  ⟨h.bel.trans k.bel, Nat.le_trans h.size k.size, fun i cs ty fr hi hn => (k.block i cs ty fr ((h.block i cs ty fr hi hn).trans hi) hn).trans (h.block i cs ty fr hi hn)⟩
theorem ButTy.of_below {e : TypeId} {B : Nat} {w w1 : World} (h : Below w.heap.size w w1) (hB : B ≤ w.heap.size) : ButTy e B w w1 := ⟨h.mono hB, h.size, fun k _ _ _ hk _ => h.block k (lt_of_heap hk)⟩
theorem ButTy.grown {e : TypeId} {B sz n : Nat} {w w1 : World} {xs : List Value} {v : Value} (h : w.ownsRow B e sz v n xs) (hg : w.grownBy w1 v.ownBlock) (hB : B ≤ w.heap.size) : ButTy e B w w1 :=
  ⟨grown_below h hg hB, hg.size, fun k _ _ _ hk hn => hg.block k (lt_of_heap hk) (own_ne h hk hn)⟩
theorem KsI.ty {e : TypeId} {B : Nat} {w w' : World} {q n : Nat} {F : Nat → Ke} {us : Nat → Value} (h : KsI w q n F us) (hb : ButTy e B w w') (h1 : 3 ≠ e) (h2 : 68 ≠ e) : KsI w' q n F us := by
  obtain ⟨c, hc, _⟩ := h.row
  refine h.keep fun k cs ty fr hk ht => hb.block k _ _ _ hk ?_
  rcases ht with rfl | rfl
  · exact h1
  · rw [hc] at hk
    injection hk with hk
    injection hk with _ hk _
    rw [← hk]; exact h2
/-- While the list grows. -/
structure HsW (B : Nat) (w : World) (q n sb : Nat) (F : Nat → Ke) (us : Nat → Value) (now most : Int) (k : Nat) (v : Value) (W : World) : Prop where
  but : ButTy 39 B w W
  ks : KsI W q n F us
  own : OwnR HC 39 10 B W v (hsL F now most k)
  step : W.cell? ⟨sb, 18, none⟩ = some (.int .i64 now)
  stepb : ∃ cs ty, W.heap[sb]? = some (.cells cs ty (0, 0)) ∧ ty ≠ 39
theorem HsW.below {B : Nat} {w W W' : World} {q n sb : Nat} {F : Nat → Ke} {us : Nat → Value} {now most : Int} {k : Nat} {v : Value} (h : HsW B w q n sb F us now most k v W) (hb : Below W.heap.size W W') (hB : B ≤ W.heap.size) : HsW B w q n sb F us now most k v W' := by
  obtain ⟨cs, ty, h1, h2⟩ := h.stepb
  exact ⟨h.but.trans (ButTy.of_below hb hB), h.ks.below hb, h.own.below hb, (hb.cell (block_lt_cell h.step)).trans h.step, cs, ty, (hb.block _ (lt_of_heap h1)).trans h1, h2⟩
theorem HsW.app {B : Nat} {w W W' : World} {q n sb : Nat} {F : Nat → Ke} {us : Nat → Value} {now most : Int} {k : Nat} {v v' : Value} (h : HsW B w q n sb F us now most k v W) (hB : B ≤ W.heap.size) (hg : W.grownBy W' v.ownBlock) (ho : OwnR HC 39 10 B W' v' (hsL F now most k ++ [(F k).hd now most])) : HsW B w q n sb F us now most (k + 1) v' W' := by
  obtain ⟨cs, ty, h1, h2⟩ := h.stepb
  have hb : ButTy 39 B W W' := ButTy.grown h.own hg hB
  rw [hsL_snoc] at ho
  exact ⟨h.but.trans hb, h.ks.ty hb (by decide) (by decide), ho, (World.cell?_of_block (hb.block _ _ _ _ h1 h2)).trans h.step, cs, ty, (hb.block _ _ _ _ h1 h2).trans h1, h2⟩
theorem wr_sub {a b : Int} (h1 : -1125899906842624 ≤ a ∧ a ≤ 1125899906842624) (h2 : -1125899906842624 ≤ b ∧ b ≤ 1125899906842624) : wrap64 (a - b) = a - b := by unfold wrap64; omega
theorem num_up2 {i : Nat} {z : Int} (h : z = (i : Int) + 1) : (Value.int .i64 z) = .int .i64 ((i + 1 : Nat) : Int) := by subst h; rfl
theorem meas_up2 {n i : Nat} {z : Int} (h : z = (i : Int) + 1) (hi : i < n) : n - (intOf (.int .i64 z)).toNat < n - (intOf (.int .i64 (i : Int))).toNat := by
  subst h
  show n - ((i : Int) + 1).toNat < n - (i : Int).toNat
  omega
theorem wr_up2 {i : Nat} (h : i ≤ 8) : wrap64 ((i : Int) + 1) = (i : Int) + 1 := by unfold wrap64; omega
theorem wr_i64' {i : Nat} (h : i ≤ 8) : IntKind.i64.wrap (i : Int) = (i : Int) := by rw [IntKind.wrap_i64]; omega
theorem dec_lt2 {i n : Nat} (h : i < n) : decide ((i : Int) < (n : Int)) = true := decide_eq_true (by omega)
def HsRel (B : Nat) (w : World) (q n sb : Nat) (F : Nat → Ke) (us : Nat → Value) (now most : Int) (hv iv : Value) (W : World) : Prop := ∃ k : Nat, k ≤ n ∧ iv = .int .i64 (k : Int) ∧ HsW B w q n sb F us now most k hv W ∧ B ≤ W.heap.size
set_option maxRecDepth 1000000 in
set_option maxHeartbeats 16000000 in
theorem rn_hs {B q n sb : Nat} {F : Nat → Ke} {us : Nat → Value} {now most : Int} {w0 W : World} {v0 a0 a1 a2 a4 a5 a6 a7 a8 a9 a10 a11 a12 a13 a14 a15 a16 a17 a19 a20 a23 a24 a25 a26 a27 a28 a29 a30 a31 a32 a33 a34 a35 a36 a37 a38 a39 a40 a41 a42 a43 a44 a45 a46 a47 a48 a49 a50 a51 a52 a53 a54 a55 a56 a57 a58 a59 a60 a61 a62 a63 a64 a65 a66 a67 a68 a69 a70 a71 a72 a73 a74 a75 a76 a77 a78 a79 a80 a81 a82 a83 a84 a85 a86 a87 a88 a89 a90 a91 a92 a93 a94 a95 a96 a97 a98 a99 a100 a101 a102 a103 a104 a105 a106 a107 a108 a109 a110 a111 a112 a113 a114 a115 a116 a117 a118 a119 a120 a121 a122 a123 a124 a125 a126 a127 a128 a129 a130 a131 a132 a133 a134 a135 a136 a137 a138 a139 a140 a141 a142 a143 a144 a145 a146 a147 a148 a149 a150 a151 a152 a153 a154 a155 a156 a157 a158 a159 a160 a161 a162 a163 a164 a165 a166 a167 a168 a169 a170 a171 a172 a173 a174 a175 a176 a177 a178 a179 a180 a181 a182 a183 a184 a185 a186 a187 a188 a189 a190 a191 a192 a193 a194 a195 a196 a197 a198 a199 a200 a201 a202 a203 a204 a205 a206 a207 a208 a209 a210 a211 a212 a213 a214 a215 a216 a217 a218 a219 a220 a221 a222 a223 a224 a225 a226 a227 a228 a229 a230 a231 a232 a233 a234 a235 a236 a237 a238 a239 a240 a241 a242 a243 a244 a245 a246 a247 a248 a249 a250 a251 a252 a253 a254 a255 a256 a257 a258 a259 a260 a261 a262 a263 a264 a265 a266 a267 a268 a269 a270 a271 a272 a273 a274 a275 a276 a277 a278 a279 a280 a281 a282 a283 a284 a285 a286 a287 a288 a289 a290 a291 a292 a293 a294 a295 a296 a297 a298 a299 a300 a301 a302 a303 a304 a305 a306 a307 a308 a309 a310 a311 a312 a313 a314 a315 a316 a317 a318 a319 a320 a321 a322 a323 a324 a325 a326 a327 a328 a329 a330 a331 a332 a333 a334 a335 a336 a337 a338 a339 a340 a341 a342 a343 a344 a345 a346 a347 a348 a349 a350 a351 a352 a353 a354 a355 a356 a357 a358 a359 a360 a361 a362 a363 a364 a365 a366 a367 a368 a369 a370 a371 a372 a373 a374 a375 a376 a377 a378 a379 a380 a381 a382 a383 a384 a385 a386 a387 a388 a389 a390 a391 a392 a393 a394 a395 a396 a397 a398 a399 a400 a401 a402 a403 a404 a405 a406 a407 a408 a409 a410 a411 a412 a413 a414 a415 a416 a417 a418 a419 a420 a421 a422 a423 a424 a425 a426 a427 a428 a429 a430 a431 a432 a433 a434 a435 a436 a437 a438 a439 a440 a441 a442 a443 a444 a445 a446 a447 a448 a449 a450 a451 a452 a453 a454 a455 a456 a457 a458 a459 a460 a461 a462 a463 a464 a465 a466 a467 a468 a469 a470 a471 a472 a473 a474 a475 a476 a477 a478 a479 a480 a481 a482 a483 a484 a485 a486 a487 a488 a489 a490 a491 a492 a493 a494 a495 a496 a497 a498 a499 a500 a501 a502 a503 a504 a505 a506 a507 a508 a509 a510 a511 a512 a513 a514 a515 a516 a517 a518 a519 a520 a521 a522 a523 a524 a525 a526 a527 a528 a529 a530 a531 a532 a533 a534 a535 a536 a537 a538 a539 a540 a541 a542 a543 a544 a545 a546 a547 a548 a549 a550 a551 a552 a553 a554 a555 a556 a557 a558 a559 a560 a561 a562 a563 a564 a565 a566 a567 a568 a569 a570 a571 a572 a573 a574 a575 a576 a577 a578 a579 a580 a581 a582 a583 a584 a585 a586 a587 a588 a589 a590 a591 a592 : Value} {Q : Exit → Act → World → Prop}
    (h0 : HsW B w0 q n sb F us now most 0 v0 W) (hB : B ≤ W.heap.size) (hn8 : n ≤ 8) (hnow : -1125899906842624 ≤ now ∧ now ≤ 1125899906842624) (hwh : ∀ k, k < n → -1125899906842624 ≤ (F k).when_ ∧ (F k).when_ ≤ 1125899906842624)
    (hQ : ∀ (v z24 z198 z199 z200 z201 z202 z203 z204 z205 z206 z207 z208 z209 z210 z211 z212 z213 z214 z215 z216 z217 z218 z219 z220 z221 z222 z223 z224 z225 z226 z227 z228 z229 z230 : Value) (W' : World), HsW B w0 q n sb F us now most n v W' → B ≤ W'.heap.size → Q .normal ⟨#[a0, a1, a2, .int .i64 most, a4, a5, a6, a7, a8, a9, a10, a11, a12, a13, a14, a15, a16, a17, .slice (some ⟨q, 0, none⟩) n n, a19, a20, .pointer (some ⟨sb, 0, none⟩), v, a23, z24, a25, a26, a27, a28, a29, a30, a31, a32, a33, a34, a35, a36, a37, a38, a39, a40, a41, a42, a43, a44, a45, a46, a47, a48, a49, a50, a51, a52, a53, a54, a55, a56, a57, a58, a59, a60, a61, a62, a63, a64, a65, a66, a67, a68, a69, a70, a71, a72, a73, a74, a75, a76, a77, a78, a79, a80, a81, a82, a83, a84, a85, a86, a87, a88, a89, a90, a91, a92, a93, a94, a95, a96, a97, a98, a99, a100, a101, a102, a103, a104, a105, a106, a107, a108, a109, a110, a111, a112, a113, a114, a115, a116, a117, a118, a119, a120, a121, a122, a123, a124, a125, a126, a127, a128, a129, a130, a131, a132, a133, a134, a135, a136, a137, a138, a139, a140, a141, a142, a143, a144, a145, a146, a147, a148, a149, a150, a151, a152, a153, a154, a155, a156, a157, a158, a159, a160, a161, a162, a163, a164, a165, a166, a167, a168, a169, a170, a171, a172, a173, a174, a175, a176, a177, a178, a179, a180, a181, a182, a183, a184, a185, a186, a187, a188, a189, a190, a191, a192, a193, a194, a195, a196, a197, z198, z199, z200, z201, z202, z203, z204, z205, z206, z207, z208, z209, z210, z211, z212, z213, z214, z215, z216, z217, z218, z219, z220, z221, z222, z223, z224, z225, z226, z227, z228, z229, z230, a231, a232, a233, a234, a235, a236, a237, a238, a239, a240, a241, a242, a243, a244, a245, a246, a247, a248, a249, a250, a251, a252, a253, a254, a255, a256, a257, a258, a259, a260, a261, a262, a263, a264, a265, a266, a267, a268, a269, a270, a271, a272, a273, a274, a275, a276, a277, a278, a279, a280, a281, a282, a283, a284, a285, a286, a287, a288, a289, a290, a291, a292, a293, a294, a295, a296, a297, a298, a299, a300, a301, a302, a303, a304, a305, a306, a307, a308, a309, a310, a311, a312, a313, a314, a315, a316, a317, a318, a319, a320, a321, a322, a323, a324, a325, a326, a327, a328, a329, a330, a331, a332, a333, a334, a335, a336, a337, a338, a339, a340, a341, a342, a343, a344, a345, a346, a347, a348, a349, a350, a351, a352, a353, a354, a355, a356, a357, a358, a359, a360, a361, a362, a363, a364, a365, a366, a367, a368, a369, a370, a371, a372, a373, a374, a375, a376, a377, a378, a379, a380, a381, a382, a383, a384, a385, a386, a387, a388, a389, a390, a391, a392, a393, a394, a395, a396, a397, a398, a399, a400, a401, a402, a403, a404, a405, a406, a407, a408, a409, a410, a411, a412, a413, a414, a415, a416, a417, a418, a419, a420, a421, a422, a423, a424, a425, a426, a427, a428, a429, a430, a431, a432, a433, a434, a435, a436, a437, a438, a439, a440, a441, a442, a443, a444, a445, a446, a447, a448, a449, a450, a451, a452, a453, a454, a455, a456, a457, a458, a459, a460, a461, a462, a463, a464, a465, a466, a467, a468, a469, a470, a471, a472, a473, a474, a475, a476, a477, a478, a479, a480, a481, a482, a483, a484, a485, a486, a487, a488, a489, a490, a491, a492, a493, a494, a495, a496, a497, a498, a499, a500, a501, a502, a503, a504, a505, a506, a507, a508, a509, a510, a511, a512, a513, a514, a515, a516, a517, a518, a519, a520, a521, a522, a523, a524, a525, a526, a527, a528, a529, a530, a531, a532, a533, a534, a535, a536, a537, a538, a539, a540, a541, a542, a543, a544, a545, a546, a547, a548, a549, a550, a551, a552, a553, a554, a555, a556, a557, a558, a559, a560, a561, a562, a563, a564, a565, a566, a567, a568, a569, a570, a571, a572, a573, a574, a575, a576, a577, a578, a579, a580, a581, a582, a583, a584, a585, a586, a587, a588, a589, a590, a591, a592], []⟩ W') :
    Code.wp Try.prog (partOf 20 1) Q ⟨#[a0, a1, a2, .int .i64 most, a4, a5, a6, a7, a8, a9, a10, a11, a12, a13, a14, a15, a16, a17, .slice (some ⟨q, 0, none⟩) n n, a19, a20, .pointer (some ⟨sb, 0, none⟩), v0, a23, a24, a25, a26, a27, a28, a29, a30, a31, a32, a33, a34, a35, a36, a37, a38, a39, a40, a41, a42, a43, a44, a45, a46, a47, a48, a49, a50, a51, a52, a53, a54, a55, a56, a57, a58, a59, a60, a61, a62, a63, a64, a65, a66, a67, a68, a69, a70, a71, a72, a73, a74, a75, a76, a77, a78, a79, a80, a81, a82, a83, a84, a85, a86, a87, a88, a89, a90, a91, a92, a93, a94, a95, a96, a97, a98, a99, a100, a101, a102, a103, a104, a105, a106, a107, a108, a109, a110, a111, a112, a113, a114, a115, a116, a117, a118, a119, a120, a121, a122, a123, a124, a125, a126, a127, a128, a129, a130, a131, a132, a133, a134, a135, a136, a137, a138, a139, a140, a141, a142, a143, a144, a145, a146, a147, a148, a149, a150, a151, a152, a153, a154, a155, a156, a157, a158, a159, a160, a161, a162, a163, a164, a165, a166, a167, a168, a169, a170, a171, a172, a173, a174, a175, a176, a177, a178, a179, a180, a181, a182, a183, a184, a185, a186, a187, a188, a189, a190, a191, a192, a193, a194, a195, a196, a197, a198, a199, a200, a201, a202, a203, a204, a205, a206, a207, a208, a209, a210, a211, a212, a213, a214, a215, a216, a217, a218, a219, a220, a221, a222, a223, a224, a225, a226, a227, a228, a229, a230, a231, a232, a233, a234, a235, a236, a237, a238, a239, a240, a241, a242, a243, a244, a245, a246, a247, a248, a249, a250, a251, a252, a253, a254, a255, a256, a257, a258, a259, a260, a261, a262, a263, a264, a265, a266, a267, a268, a269, a270, a271, a272, a273, a274, a275, a276, a277, a278, a279, a280, a281, a282, a283, a284, a285, a286, a287, a288, a289, a290, a291, a292, a293, a294, a295, a296, a297, a298, a299, a300, a301, a302, a303, a304, a305, a306, a307, a308, a309, a310, a311, a312, a313, a314, a315, a316, a317, a318, a319, a320, a321, a322, a323, a324, a325, a326, a327, a328, a329, a330, a331, a332, a333, a334, a335, a336, a337, a338, a339, a340, a341, a342, a343, a344, a345, a346, a347, a348, a349, a350, a351, a352, a353, a354, a355, a356, a357, a358, a359, a360, a361, a362, a363, a364, a365, a366, a367, a368, a369, a370, a371, a372, a373, a374, a375, a376, a377, a378, a379, a380, a381, a382, a383, a384, a385, a386, a387, a388, a389, a390, a391, a392, a393, a394, a395, a396, a397, a398, a399, a400, a401, a402, a403, a404, a405, a406, a407, a408, a409, a410, a411, a412, a413, a414, a415, a416, a417, a418, a419, a420, a421, a422, a423, a424, a425, a426, a427, a428, a429, a430, a431, a432, a433, a434, a435, a436, a437, a438, a439, a440, a441, a442, a443, a444, a445, a446, a447, a448, a449, a450, a451, a452, a453, a454, a455, a456, a457, a458, a459, a460, a461, a462, a463, a464, a465, a466, a467, a468, a469, a470, a471, a472, a473, a474, a475, a476, a477, a478, a479, a480, a481, a482, a483, a484, a485, a486, a487, a488, a489, a490, a491, a492, a493, a494, a495, a496, a497, a498, a499, a500, a501, a502, a503, a504, a505, a506, a507, a508, a509, a510, a511, a512, a513, a514, a515, a516, a517, a518, a519, a520, a521, a522, a523, a524, a525, a526, a527, a528, a529, a530, a531, a532, a533, a534, a535, a536, a537, a538, a539, a540, a541, a542, a543, a544, a545, a546, a547, a548, a549, a550, a551, a552, a553, a554, a555, a556, a557, a558, a559, a560, a561, a562, a563, a564, a565, a566, a567, a568, a569, a570, a571, a572, a573, a574, a575, a576, a577, a578, a579, a580, a581, a582, a583, a584, a585, a586, a587, a588, a589, a590, a591, a592], []⟩ W := by
  have HK := Lib.hid hQ
  have H0 := Lib.hid h0
  have HB := Lib.hid hB
  have HN := Lib.hid hn8
  have HNo := Lib.hid hnow
  have HWh := Lib.hid hwh
  clear hQ h0 hB hn8 hnow hwh
  conv => arg 2; whnf
  go_wp2_with fail
  go_loopw [22, 200] (fun hv iv wr => HsRel B w0 q n sb F us now most hv iv wr) (fun _ iv _ => n - (intOf iv).toNat)
  case atStart => exact ⟨0, Nat.zero_le _, rfl, H0.out, HB.out⟩
  case round =>
    clear H0 HB
    obtain ⟨i, hi, rfl, hs, hB⟩ := hrel
    have HS := Lib.hid hs
    have HB := Lib.hid hB
    obtain ⟨pv, cv, rfl⟩ := hs.own.slice
    rw [hsL_len] at HS ⊢
    clear hs hB
    rcases Nat.lt_or_ge i n with g1 | g1
    · have hd := dec_lt2 g1
      have hn8 := HN.out
      have hir := wr_i64' (i := i) (by omega)
      have hwi := wr_up2 (i := i) (by omega)
      have HI8 : Hid (i ≤ 10000) := Lib.hid (by omega)
      have HG := Lib.hid g1
      have HSub := Lib.hid (wr_sub HNo.out (HWh.out i g1))
      have HRg := Lib.hid (HS.out.ks.port g1)
      have hqr : ∃ cs ty fr, wr.heap[q]? = some (.cells cs ty fr) := by obtain ⟨cs, h1, _⟩ := HS.out.ks.row; exact ⟨_, _, _, h1⟩
      have hql : q < wr.heap.size := by obtain ⟨cs, ty, fr, h1⟩ := hqr; exact lt_of_heap h1
      have HSt : Hid (∀ o, (wr.alloc o).cell? ⟨sb, 18, none⟩ = some (.int .i64 now)) := Lib.hid (fun o => ((bAl (bRef wr) o).cell (block_lt_cell HS.out.step)).trans HS.out.step)
      have hsl : sb < wr.heap.size := block_lt_cell HS.out.step
      have hst := HS.out.step
      obtain ⟨fk, hfk⟩ : ∃ fk, fk = F i := ⟨_, rfl⟩
      have HFk := Lib.hid hfk
      rw [← hfk] at HSub HRg
      clear hn8 hfk hqr hi
      obtain ⟨up, ok, row, path, wn⟩ := fk
      rw [show KeC ⟨up, ok, row, path, wn⟩ (us i) = #[.bool up, .bool ok, .int .i64 row.r.one, .int .i64 row.r.cls, .int .i64 row.r.two, .int .i64 row.r.id, .int .i64 row.steps, .int .i64 row.from_, .int .i64 row.port, .int .i64 row.at_, us i, .int .i64 wn] from rfl] at HRg
      have hsub := HSub.out
      dsimp only at hsub
      have HOne : Hid ((#[.bool up, .bool ok, .int .i64 row.r.one, .int .i64 row.r.cls, .int .i64 row.r.two, .int .i64 row.r.id, .int .i64 row.steps, .int .i64 row.from_, .int .i64 row.port, .int .i64 row.at_, us i, .int .i64 wn] : Array Value).all (·.oneCell') = true) := Lib.hid (by
        obtain ⟨pu, cu, hu⟩ := (HS.out.ks.path i g1).slice
        rw [hu]
        simp [Value.oneCell'])
      have HRow : Hid ((wr.alloc (.cells #[.bool up, .bool ok, .int .i64 row.r.one, .int .i64 row.r.cls, .int .i64 row.r.two, .int .i64 row.r.id, .int .i64 row.steps, .int .i64 row.from_, .int .i64 row.port, .int .i64 row.at_, us i, .int .i64 wn] 68)).rangeAt wr.heap.size 2 (#[.int .i64 row.r.one, .int .i64 row.r.cls, .int .i64 row.r.two, .int .i64 row.r.id, .int .i64 row.steps, .int .i64 row.from_, .int .i64 row.port, .int .i64 row.at_] : Array Value).toList) := Lib.hid (range_of_row (heap_alloc_new wr _) 2 _ (fun j x hj => by
        have hl : j < 8 := by have := (List.getElem?_eq_some_iff.1 hj).1; simpa using this
        rcases (show j = 0 ∨ j = 1 ∨ j = 2 ∨ j = 3 ∨ j = 4 ∨ j = 5 ∨ j = 6 ∨ j = 7 by omega) with rfl | rfl | rfl | rfl | rfl | rfl | rfl | rfl <;> exact hj))
      clear g1
      generalize us i = uv at *
      cases ok with
      | false =>
        have HHd : Hid ((F i).hd now most = ⟨up, false, row⟩) := Lib.hid (by rw [← HFk.out]; rfl)
        have HS2 := Lib.hid ((HS.out.below (bAl (bRef wr) (.cells #[.bool up, .bool false, .int .i64 row.r.one, .int .i64 row.r.cls, .int .i64 row.r.two, .int .i64 row.r.id, .int .i64 row.steps, .int .i64 row.from_, .int .i64 row.port, .int .i64 row.at_, uv, .int .i64 wn] 68)) HB.out).below (bAl (bRef _) (.cells #[.bool up, .bool false, .int .i64 row.r.one, .int .i64 row.r.cls, .int .i64 row.r.two, .int .i64 row.r.id, .int .i64 row.steps, .int .i64 row.from_, .int .i64 row.port, .int .i64 row.at_] 39)) (Nat.le_trans HB.out (by simp)))
        have HB2 : Hid (B ≤ ((wr.alloc (.cells #[.bool up, .bool false, .int .i64 row.r.one, .int .i64 row.r.cls, .int .i64 row.r.two, .int .i64 row.r.id, .int .i64 row.steps, .int .i64 row.from_, .int .i64 row.port, .int .i64 row.at_, uv, .int .i64 wn] 68)).alloc (.cells #[.bool up, .bool false, .int .i64 row.r.one, .int .i64 row.r.cls, .int .i64 row.r.two, .int .i64 row.r.id, .int .i64 row.steps, .int .i64 row.from_, .int .i64 row.port, .int .i64 row.at_] 39)).heap.size) := Lib.hid (Nat.le_trans HB.out (by simp; omega))
        go_wp2_with (first
          | ((with_reducible refine at_loadE ?_); refine wpList_loadW rfl _ _ rfl q (i * 12) rfl #[.bool up, .bool false, .int .i64 row.r.one, .int .i64 row.r.cls, .int .i64 row.r.two, .int .i64 row.r.id, .int .i64 row.steps, .int .i64 row.from_, .int .i64 row.port, .int .i64 row.at_, uv, .int .i64 wn] _ HRg.out Try.underlying68 rfl (by kernel_rfl) ?_)
          | ((with_reducible refine at_storeE ?_); refine wpList_storeNW rfl _ _ _ rfl wr.heap.size rfl #[.bool up, .bool false, .int .i64 row.r.one, .int .i64 row.r.cls, .int .i64 row.r.two, .int .i64 row.r.id, .int .i64 row.steps, .int .i64 row.from_, .int .i64 row.port, .int .i64 row.at_, uv, .int .i64 wn] _ _ rfl rfl HOne.out (by kernel_rfl) rfl ?_)
          | ((with_reducible refine at_loadR ?_); refine wpList_loadW rfl _ _ rfl wr.heap.size 2 rfl #[.int .i64 row.r.one, .int .i64 row.r.cls, .int .i64 row.r.two, .int .i64 row.r.id, .int .i64 row.steps, .int .i64 row.from_, .int .i64 row.port, .int .i64 row.at_] _ HRow.out Try.underlying30 rfl (by kernel_rfl) ?_)
          | ((with_reducible refine at_buildK ?_); refine wpList_buildG rfl _ _ rfl #[.bool up, .bool false, .int .i64 row.r.one, .int .i64 row.r.cls, .int .i64 row.r.two, .int .i64 row.r.id, .int .i64 row.steps, .int .i64 row.from_, .int .i64 row.port, .int .i64 row.at_] (by simp only [List.map_toArray, List.map_cons, List.map_nil]; kernel_rfl) ?_)
          | ((with_reducible refine at_append ?_); refine wpList_app1 HC 10 72 39 35 Try.infoK Try.underlying35 rfl (by decide) (by decide) HC_size HC_one rfl _ _ rfl B _ (hsL F now most i) ((F i).hd now most) (wr.heap.size + 1) rfl rfl HS2.out.own HB2.out (by rw [HHd.out]; exact range_whole (heap_alloc2_new wr _ _)) (by rw [hsL_len]; exact HI8.out) ?_; intro v2 w2 ho hg; have HS3 := Lib.hid (HS2.out.app HB2.out hg ho); have HB3 := Lib.hid (Nat.le_trans HB2.out hg.size); clear ho hg))
        go_roundw
        case rel => exact ⟨i + 1, HG.out, num_up2 (by first | exact hwi | rfl), HS3.out, HB3.out⟩
        case measure => exact meas_up2 (by first | exact hwi | rfl) HG.out
      | true =>
        by_cases h1 : wn ≤ now
        · have e1 : decide (wn ≤ now) = true := decide_eq_true h1
          by_cases h2 : now - wn ≤ most
          · have e2 : decide (now - wn ≤ most) = true := decide_eq_true h2
            have HHd : Hid ((F i).hd now most = ⟨up, true, row⟩) := Lib.hid (by rw [← HFk.out]; show (⟨up, true && (decide (wn ≤ now) && decide (now - wn ≤ most)), row⟩ : Hd) = _; rw [e1, e2]; rfl)
            have HS2 := Lib.hid ((HS.out.below (bAl (bRef wr) (.cells #[.bool up, .bool true, .int .i64 row.r.one, .int .i64 row.r.cls, .int .i64 row.r.two, .int .i64 row.r.id, .int .i64 row.steps, .int .i64 row.from_, .int .i64 row.port, .int .i64 row.at_, uv, .int .i64 wn] 68)) HB.out).below (bAl (bRef _) (.cells #[.bool up, .bool true, .int .i64 row.r.one, .int .i64 row.r.cls, .int .i64 row.r.two, .int .i64 row.r.id, .int .i64 row.steps, .int .i64 row.from_, .int .i64 row.port, .int .i64 row.at_] 39)) (Nat.le_trans HB.out (by simp)))
            have HB2 : Hid (B ≤ ((wr.alloc (.cells #[.bool up, .bool true, .int .i64 row.r.one, .int .i64 row.r.cls, .int .i64 row.r.two, .int .i64 row.r.id, .int .i64 row.steps, .int .i64 row.from_, .int .i64 row.port, .int .i64 row.at_, uv, .int .i64 wn] 68)).alloc (.cells #[.bool up, .bool true, .int .i64 row.r.one, .int .i64 row.r.cls, .int .i64 row.r.two, .int .i64 row.r.id, .int .i64 row.steps, .int .i64 row.from_, .int .i64 row.port, .int .i64 row.at_] 39)).heap.size) := Lib.hid (Nat.le_trans HB.out (by simp; omega))
            go_wp2_with (first
              | ((with_reducible refine at_loadE ?_); refine wpList_loadW rfl _ _ rfl q (i * 12) rfl #[.bool up, .bool true, .int .i64 row.r.one, .int .i64 row.r.cls, .int .i64 row.r.two, .int .i64 row.r.id, .int .i64 row.steps, .int .i64 row.from_, .int .i64 row.port, .int .i64 row.at_, uv, .int .i64 wn] _ HRg.out Try.underlying68 rfl (by kernel_rfl) ?_)
              | ((with_reducible refine at_storeE ?_); refine wpList_storeNW rfl _ _ _ rfl wr.heap.size rfl #[.bool up, .bool true, .int .i64 row.r.one, .int .i64 row.r.cls, .int .i64 row.r.two, .int .i64 row.r.id, .int .i64 row.steps, .int .i64 row.from_, .int .i64 row.port, .int .i64 row.at_, uv, .int .i64 wn] _ _ rfl rfl HOne.out (by kernel_rfl) rfl ?_)
              | ((with_reducible refine at_loadR ?_); refine wpList_loadW rfl _ _ rfl wr.heap.size 2 rfl #[.int .i64 row.r.one, .int .i64 row.r.cls, .int .i64 row.r.two, .int .i64 row.r.id, .int .i64 row.steps, .int .i64 row.from_, .int .i64 row.port, .int .i64 row.at_] _ HRow.out Try.underlying30 rfl (by kernel_rfl) ?_)
              | ((with_reducible refine at_buildK ?_); refine wpList_buildG rfl _ _ rfl #[.bool up, .bool true, .int .i64 row.r.one, .int .i64 row.r.cls, .int .i64 row.r.two, .int .i64 row.r.id, .int .i64 row.steps, .int .i64 row.from_, .int .i64 row.port, .int .i64 row.at_] (by simp only [List.map_toArray, List.map_cons, List.map_nil]; kernel_rfl) ?_)
              | ((with_reducible refine at_append ?_); refine wpList_app1 HC 10 72 39 35 Try.infoK Try.underlying35 rfl (by decide) (by decide) HC_size HC_one rfl _ _ rfl B _ (hsL F now most i) ((F i).hd now most) (wr.heap.size + 1) rfl rfl HS2.out.own HB2.out (by rw [HHd.out]; exact range_whole (heap_alloc2_new wr _ _)) (by rw [hsL_len]; exact HI8.out) ?_; intro v2 w2 ho hg; have HS3 := Lib.hid (HS2.out.app HB2.out hg ho); have HB3 := Lib.hid (Nat.le_trans HB2.out hg.size); clear ho hg))
            go_roundw
            case rel => exact ⟨i + 1, HG.out, num_up2 (by first | exact hwi | rfl), HS3.out, HB3.out⟩
            case measure => exact meas_up2 (by first | exact hwi | rfl) HG.out
          · have e2 : decide (now - wn ≤ most) = false := decide_eq_false h2
            have HHd : Hid ((F i).hd now most = ⟨up, false, row⟩) := Lib.hid (by rw [← HFk.out]; show (⟨up, true && (decide (wn ≤ now) && decide (now - wn ≤ most)), row⟩ : Hd) = _; rw [e1, e2]; rfl)
            have HS2 := Lib.hid ((HS.out.below (bAl (bRef wr) (.cells #[.bool up, .bool true, .int .i64 row.r.one, .int .i64 row.r.cls, .int .i64 row.r.two, .int .i64 row.r.id, .int .i64 row.steps, .int .i64 row.from_, .int .i64 row.port, .int .i64 row.at_, uv, .int .i64 wn] 68)) HB.out).below (bAl (bRef _) (.cells #[.bool up, .bool false, .int .i64 row.r.one, .int .i64 row.r.cls, .int .i64 row.r.two, .int .i64 row.r.id, .int .i64 row.steps, .int .i64 row.from_, .int .i64 row.port, .int .i64 row.at_] 39)) (Nat.le_trans HB.out (by simp)))
            have HB2 : Hid (B ≤ ((wr.alloc (.cells #[.bool up, .bool true, .int .i64 row.r.one, .int .i64 row.r.cls, .int .i64 row.r.two, .int .i64 row.r.id, .int .i64 row.steps, .int .i64 row.from_, .int .i64 row.port, .int .i64 row.at_, uv, .int .i64 wn] 68)).alloc (.cells #[.bool up, .bool false, .int .i64 row.r.one, .int .i64 row.r.cls, .int .i64 row.r.two, .int .i64 row.r.id, .int .i64 row.steps, .int .i64 row.from_, .int .i64 row.port, .int .i64 row.at_] 39)).heap.size) := Lib.hid (Nat.le_trans HB.out (by simp; omega))
            go_wp2_with (first
              | ((with_reducible refine at_loadE ?_); refine wpList_loadW rfl _ _ rfl q (i * 12) rfl #[.bool up, .bool true, .int .i64 row.r.one, .int .i64 row.r.cls, .int .i64 row.r.two, .int .i64 row.r.id, .int .i64 row.steps, .int .i64 row.from_, .int .i64 row.port, .int .i64 row.at_, uv, .int .i64 wn] _ HRg.out Try.underlying68 rfl (by kernel_rfl) ?_)
              | ((with_reducible refine at_storeE ?_); refine wpList_storeNW rfl _ _ _ rfl wr.heap.size rfl #[.bool up, .bool true, .int .i64 row.r.one, .int .i64 row.r.cls, .int .i64 row.r.two, .int .i64 row.r.id, .int .i64 row.steps, .int .i64 row.from_, .int .i64 row.port, .int .i64 row.at_, uv, .int .i64 wn] _ _ rfl rfl HOne.out (by kernel_rfl) rfl ?_)
              | ((with_reducible refine at_loadR ?_); refine wpList_loadW rfl _ _ rfl wr.heap.size 2 rfl #[.int .i64 row.r.one, .int .i64 row.r.cls, .int .i64 row.r.two, .int .i64 row.r.id, .int .i64 row.steps, .int .i64 row.from_, .int .i64 row.port, .int .i64 row.at_] _ HRow.out Try.underlying30 rfl (by kernel_rfl) ?_)
              | ((with_reducible refine at_buildK ?_); refine wpList_buildG rfl _ _ rfl #[.bool up, .bool false, .int .i64 row.r.one, .int .i64 row.r.cls, .int .i64 row.r.two, .int .i64 row.r.id, .int .i64 row.steps, .int .i64 row.from_, .int .i64 row.port, .int .i64 row.at_] (by simp only [List.map_toArray, List.map_cons, List.map_nil]; kernel_rfl) ?_)
              | ((with_reducible refine at_append ?_); refine wpList_app1 HC 10 72 39 35 Try.infoK Try.underlying35 rfl (by decide) (by decide) HC_size HC_one rfl _ _ rfl B _ (hsL F now most i) ((F i).hd now most) (wr.heap.size + 1) rfl rfl HS2.out.own HB2.out (by rw [HHd.out]; exact range_whole (heap_alloc2_new wr _ _)) (by rw [hsL_len]; exact HI8.out) ?_; intro v2 w2 ho hg; have HS3 := Lib.hid (HS2.out.app HB2.out hg ho); have HB3 := Lib.hid (Nat.le_trans HB2.out hg.size); clear ho hg))
            go_roundw
            case rel => exact ⟨i + 1, HG.out, num_up2 (by first | exact hwi | rfl), HS3.out, HB3.out⟩
            case measure => exact meas_up2 (by first | exact hwi | rfl) HG.out
        · have e1 : decide (wn ≤ now) = false := decide_eq_false h1
          have HHd : Hid ((F i).hd now most = ⟨up, false, row⟩) := Lib.hid (by rw [← HFk.out]; show (⟨up, true && (decide (wn ≤ now) && decide (now - wn ≤ most)), row⟩ : Hd) = _; rw [e1]; rfl)
          have HS2 := Lib.hid ((HS.out.below (bAl (bRef wr) (.cells #[.bool up, .bool true, .int .i64 row.r.one, .int .i64 row.r.cls, .int .i64 row.r.two, .int .i64 row.r.id, .int .i64 row.steps, .int .i64 row.from_, .int .i64 row.port, .int .i64 row.at_, uv, .int .i64 wn] 68)) HB.out).below (bAl (bRef _) (.cells #[.bool up, .bool false, .int .i64 row.r.one, .int .i64 row.r.cls, .int .i64 row.r.two, .int .i64 row.r.id, .int .i64 row.steps, .int .i64 row.from_, .int .i64 row.port, .int .i64 row.at_] 39)) (Nat.le_trans HB.out (by simp)))
          have HB2 : Hid (B ≤ ((wr.alloc (.cells #[.bool up, .bool true, .int .i64 row.r.one, .int .i64 row.r.cls, .int .i64 row.r.two, .int .i64 row.r.id, .int .i64 row.steps, .int .i64 row.from_, .int .i64 row.port, .int .i64 row.at_, uv, .int .i64 wn] 68)).alloc (.cells #[.bool up, .bool false, .int .i64 row.r.one, .int .i64 row.r.cls, .int .i64 row.r.two, .int .i64 row.r.id, .int .i64 row.steps, .int .i64 row.from_, .int .i64 row.port, .int .i64 row.at_] 39)).heap.size) := Lib.hid (Nat.le_trans HB.out (by simp; omega))
          go_wp2_with (first
            | ((with_reducible refine at_loadE ?_); refine wpList_loadW rfl _ _ rfl q (i * 12) rfl #[.bool up, .bool true, .int .i64 row.r.one, .int .i64 row.r.cls, .int .i64 row.r.two, .int .i64 row.r.id, .int .i64 row.steps, .int .i64 row.from_, .int .i64 row.port, .int .i64 row.at_, uv, .int .i64 wn] _ HRg.out Try.underlying68 rfl (by kernel_rfl) ?_)
            | ((with_reducible refine at_storeE ?_); refine wpList_storeNW rfl _ _ _ rfl wr.heap.size rfl #[.bool up, .bool true, .int .i64 row.r.one, .int .i64 row.r.cls, .int .i64 row.r.two, .int .i64 row.r.id, .int .i64 row.steps, .int .i64 row.from_, .int .i64 row.port, .int .i64 row.at_, uv, .int .i64 wn] _ _ rfl rfl HOne.out (by kernel_rfl) rfl ?_)
            | ((with_reducible refine at_loadR ?_); refine wpList_loadW rfl _ _ rfl wr.heap.size 2 rfl #[.int .i64 row.r.one, .int .i64 row.r.cls, .int .i64 row.r.two, .int .i64 row.r.id, .int .i64 row.steps, .int .i64 row.from_, .int .i64 row.port, .int .i64 row.at_] _ HRow.out Try.underlying30 rfl (by kernel_rfl) ?_)
            | ((with_reducible refine at_buildK ?_); refine wpList_buildG rfl _ _ rfl #[.bool up, .bool false, .int .i64 row.r.one, .int .i64 row.r.cls, .int .i64 row.r.two, .int .i64 row.r.id, .int .i64 row.steps, .int .i64 row.from_, .int .i64 row.port, .int .i64 row.at_] (by simp only [List.map_toArray, List.map_cons, List.map_nil]; kernel_rfl) ?_)
            | ((with_reducible refine at_append ?_); refine wpList_app1 HC 10 72 39 35 Try.infoK Try.underlying35 rfl (by decide) (by decide) HC_size HC_one rfl _ _ rfl B _ (hsL F now most i) ((F i).hd now most) (wr.heap.size + 1) rfl rfl HS2.out.own HB2.out (by rw [HHd.out]; exact range_whole (heap_alloc2_new wr _ _)) (by rw [hsL_len]; exact HI8.out) ?_; intro v2 w2 ho hg; have HS3 := Lib.hid (HS2.out.app HB2.out hg ho); have HB3 := Lib.hid (Nat.le_trans HB2.out hg.size); clear ho hg))
          go_roundw
          case rel => exact ⟨i + 1, HG.out, num_up2 (by first | exact hwi | rfl), HS3.out, HB3.out⟩
          case measure => exact meas_up2 (by first | exact hwi | rfl) HG.out
    · obtain rfl : i = n := by omega
      have hd : decide ((i : Int) < (i : Int)) = false := decide_eq_false (by omega)
      go_wp2_with fail
      exact HK.out _ _ _ _ _ _ _ _ _ _ _ _ _ _ _ _ _ _ _ _ _ _ _ _ _ _ _ _ _ _ _ _ _ _ _ _ HS.out HB.out

end Go.Proofs.Ytholemjbjmkpkaa
