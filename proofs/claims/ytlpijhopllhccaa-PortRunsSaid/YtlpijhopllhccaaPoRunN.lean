/- PortRuns: kind 1 behind the list that is due, in a declaration of its own. Written by gen_porunn.py. -/
import Derived.Test.YtlpijhopllhccaaPoRunW
namespace Go.Proofs.Ytlpijhopllhccaa
open Go.RowKit Go.Joins

theorem LpRel.start {w1 : World} {l : Nat → Int} {i0 i1 : Int} {i2 : Bool} : LpRel w1 (.cells #[.int .i64 i0, .int .i64 i1, .bool i2] 35) l (.int .i64 0) ((w1.alloc (.cells #[.int .i64 i0, .int .i64 i1, .bool i2] 35)).alloc (o8 (fun _ => 0))) := by
  have e1 := heap_alloc_one w1 (.cells #[.int .i64 i0, .int .i64 i1, .bool i2] 35)
  have e2 := heap_alloc_one (w1.alloc (.cells #[.int .i64 i0, .int .i64 i1, .bool i2] 35)) (o8 (fun _ => 0))
  rw [show (w1.alloc (.cells #[.int .i64 i0, .int .i64 i1, .bool i2] 35)).heap.size = w1.heap.size + 1 by simp] at e2
  exact ⟨0, rfl, by omega, bAl (bAl (bRef w1) _) _, (heap_alloc_old _ _ (r := w1.heap.size) (by simp)).trans e1, by simpa [o8] using e2⟩
theorem below_box {w1 W : World} {oi : Obj} (hb : Below w1.heap.size w1 W) (h1 : W.heap[w1.heap.size]? = some oi) : Below (w1.alloc oi).heap.size (w1.alloc oi) W := by
  obtain ⟨e1, e2, e3, e4, e5⟩ := hb
  have hs : (w1.alloc oi).heap.size = w1.heap.size + 1 := by simp
  refine ⟨e1, e2, e3, ?_, fun j hj => ?_⟩
  · have := lt_of_heap h1
    omega
  · by_cases e : j = w1.heap.size
    · subst e
      exact h1.trans (heap_alloc_one w1 oi).symm
    · exact (e5 j (by omega)).trans (heap_alloc_old _ _ (r := j) (by omega)).symm
set_option maxRecDepth 1000000 in
set_option maxHeartbeats 16000000 in
theorem rn_k1b {w wc : World} {k L b c1 c2 g : Nat} {S : SP} {p Q : PL} {s : LS} {m : Int} {lp : Option Addr} {ln lc : Nat} {v2 : Value} {Q0 : Exit → Act → World → Prop} {a0 a1 a2 a3 a4 a5 a6 a8 a9 a10 a11 a12 a13 a15 a18 a21 a22 a23 a24 a25 a26 a27 a28 a29 a30 a31 a32 a33 a34 a35 a36 a37 a38 a39 a40 a41 a42 a43 a44 a45 a46 a47 a48 a49 a50 a51 a52 a53 a54 a55 a56 a57 a58 a59 a60 a61 a62 a63 a64 a65 a66 a67 a68 a69 a70 a71 a72 a73 a74 a75 a76 a77 a78 a79 a80 a81 a82 a83 a84 a85 a86 a87 a88 a89 a90 a91 a92 a93 a94 a95 a96 a97 a98 a99 a100 a101 a102 a103 a104 a105 a106 a107 a108 a109 a110 a111 a112 a113 a114 a115 a116 a117 a118 a119 a120 a121 a122 a123 a124 a125 a126 a127 a128 a129 a130 a131 a132 a133 a134 a135 a136 a137 a138 a139 a140 a141 a142 a143 a144 a145 a146 a147 a148 a149 a150 a151 a152 a153 a154 a155 a156 a157 a158 a159 a160 a161 a162 a163 a164 a165 a166 a167 a168 a169 a170 a171 a172 a173 a174 a175 a176 a177 a178 a179 a180 a181 a182 a183 a184 a185 a186 a187 a188 a189 a190 a191 a192 a193 a194 a195 a196 a197 a198 a199 a200 a201 a202 a203 a204 a205 a206 a207 a208 a209 a210 a211 a212 a213 a214 a215 a216 a217 a218 a219 a220 a221 a222 a223 a224 a225 a226 a227 a228 a229 a230 a231 a232 a233 a234 a235 a236 a237 a238 a239 a240 a241 a242 a243 a244 a245 a246 a247 a248 a249 a250 a251 a252 a253 a254 a255 a256 a257 a258 a259 a260 a261 a262 a263 a264 a265 a266 a267 a268 a269 a270 a271 a272 a273 a274 a275 a276 a277 a278 a279 a280 a281 a282 a283 a284 a285 a286 a287 a288 a289 a290 a291 a292 a293 a294 a295 : Value}
    (HX : Hid (RnT w k L b c1 c2 g S p Q (.slice lp ln lc) v2 s m wc)) (HQ : Hid (lawT Q m = Q)) (HM : Hid (0 ≤ m ∧ m ≤ 1099511627776)) (hP : ∀ c (ax : Act) (kx : Option Nat) (vx : Value) (wx : World), Q0 (.panic c) (ax.put kx vx) wx → Q0 (.panic c) ax wx)
    (hQ : ∀ (z23 z24 z25 z26 z27 z28 z29 z30 z181 z182 z183 z184 z185 z186 z187 z188 z189 z190 z191 z192 z193 z194 z195 z196 z197 z198 z199 z200 z201 z202 z203 z204 z205 z206 z207 z208 z209 z210 z211 z212 z213 z214 z215 z216 z217 z218 z219 z220 z221 z222 z223 z224 z225 z226 z227 z228 z229 z230 z231 z232 z233 z234 z235 z236 z237 z238 : Value) (W : World) (s' : LS), RnT w k L b c1 c2 g S (p.turn m) Q (.slice lp ln lc) v2 s' m W → Q0 .normal ⟨#[a0, a1, a2, a3, a4, a5, a6, .pointer (some ⟨k, 0, none⟩), a8, a9, a10, a11, a12, a13, .pointer (some ⟨b, 0, none⟩), a15, .int .i64 m, .pointer (some ⟨c1, 0, none⟩), a18, .int .i64 Q.fr, .bool Q.wt, a21, a22, z23, z24, z25, z26, z27, z28, z29, z30, a31, a32, a33, a34, a35, a36, a37, a38, a39, a40, a41, a42, a43, a44, a45, a46, a47, a48, a49, a50, a51, a52, a53, a54, a55, a56, a57, a58, a59, a60, a61, a62, a63, a64, a65, a66, a67, a68, a69, a70, a71, a72, a73, a74, a75, a76, a77, a78, a79, a80, a81, a82, a83, a84, a85, a86, a87, a88, a89, a90, a91, a92, a93, a94, a95, a96, a97, a98, a99, a100, a101, a102, a103, a104, a105, a106, a107, a108, a109, a110, a111, a112, a113, a114, a115, a116, a117, a118, a119, a120, a121, a122, a123, a124, a125, a126, a127, a128, a129, a130, a131, a132, a133, a134, a135, a136, a137, a138, a139, a140, a141, a142, a143, a144, a145, a146, a147, a148, a149, a150, a151, a152, a153, a154, a155, a156, a157, a158, a159, a160, a161, a162, a163, a164, a165, a166, a167, a168, a169, a170, a171, a172, a173, a174, a175, a176, a177, a178, a179, a180, z181, z182, z183, z184, z185, z186, z187, z188, z189, z190, z191, z192, z193, z194, z195, z196, z197, z198, z199, z200, z201, z202, z203, z204, z205, z206, z207, z208, z209, z210, z211, z212, z213, z214, z215, z216, z217, z218, z219, z220, z221, z222, z223, z224, z225, z226, z227, z228, z229, z230, z231, z232, z233, z234, z235, z236, z237, z238, a239, a240, a241, a242, a243, a244, a245, a246, a247, a248, a249, a250, a251, a252, a253, a254, a255, a256, a257, a258, a259, a260, a261, a262, a263, a264, a265, a266, a267, a268, a269, a270, a271, a272, a273, a274, a275, a276, a277, a278, a279, a280, a281, a282, a283, a284, a285, a286, a287, a288, a289, a290, a291, a292, a293, a294, a295], []⟩ W) :
    Code.wp Try.prog (partOf 37 0) Q0 ⟨#[a0, a1, a2, a3, a4, a5, a6, .pointer (some ⟨k, 0, none⟩), a8, a9, a10, a11, a12, a13, .pointer (some ⟨b, 0, none⟩), a15, .int .i64 m, .pointer (some ⟨c1, 0, none⟩), a18, .int .i64 Q.fr, .bool Q.wt, a21, a22, a23, a24, a25, a26, a27, a28, a29, a30, a31, a32, a33, a34, a35, a36, a37, a38, a39, a40, a41, a42, a43, a44, a45, a46, a47, a48, a49, a50, a51, a52, a53, a54, a55, a56, a57, a58, a59, a60, a61, a62, a63, a64, a65, a66, a67, a68, a69, a70, a71, a72, a73, a74, a75, a76, a77, a78, a79, a80, a81, a82, a83, a84, a85, a86, a87, a88, a89, a90, a91, a92, a93, a94, a95, a96, a97, a98, a99, a100, a101, a102, a103, a104, a105, a106, a107, a108, a109, a110, a111, a112, a113, a114, a115, a116, a117, a118, a119, a120, a121, a122, a123, a124, a125, a126, a127, a128, a129, a130, a131, a132, a133, a134, a135, a136, a137, a138, a139, a140, a141, a142, a143, a144, a145, a146, a147, a148, a149, a150, a151, a152, a153, a154, a155, a156, a157, a158, a159, a160, a161, a162, a163, a164, a165, a166, a167, a168, a169, a170, a171, a172, a173, a174, a175, a176, a177, a178, a179, a180, a181, a182, a183, a184, a185, a186, a187, a188, a189, a190, a191, a192, a193, a194, a195, a196, a197, a198, a199, a200, a201, a202, a203, a204, a205, a206, a207, a208, a209, a210, a211, a212, a213, a214, a215, a216, a217, a218, a219, a220, a221, a222, a223, a224, a225, a226, a227, a228, a229, a230, a231, a232, a233, a234, a235, a236, a237, a238, a239, a240, a241, a242, a243, a244, a245, a246, a247, a248, a249, a250, a251, a252, a253, a254, a255, a256, a257, a258, a259, a260, a261, a262, a263, a264, a265, a266, a267, a268, a269, a270, a271, a272, a273, a274, a275, a276, a277, a278, a279, a280, a281, a282, a283, a284, a285, a286, a287, a288, a289, a290, a291, a292, a293, a294, a295], []⟩ wc := by
  have HK := Lib.hid hQ
  have HLO : Hid (leftOf p m = leftP Q.wt Q.fr Q.b1 Q.c1 Q.t1 m) := Lib.hid (by have h := HX.out.rs.sim.left; rw [HQ.out] at h; exact h)
  obtain ⟨l, hl⟩ : ∃ l, leftP Q.wt Q.fr Q.b1 Q.c1 Q.t1 m = l := ⟨_, rfl⟩
  have HL := Lib.hid hl
  rw [hl] at HLO
  obtain ⟨cv, i0, i1, i2, okk, s', hpk, hgs, hrs⟩ := picks_any HX.out.rs.gd l
  have HPX := Lib.hid hpk
  have HNX := Lib.hid (rt_pnext HX.out.rs.rt m HM.out (by rw [HLO.out]; exact hpk L))
  have HGS := Lib.hid hgs
  have HRS := Lib.hid hrs
  have hne : ∀ W, (binOp .neq 35 (.agg #[.int .i64 i0, .int .i64 i1, .bool i2]) (.agg #[.int .i64 i0, .int .i64 i1, .bool i2])).run Try.prog W = .ok (.bool false) W := fun W => run_neIt (i0, i1, i2) (i0, i1, i2) W true (by simp)
  clear hQ hl hpk hgs hrs
  conv => arg 2; whnf
  go_wp2_with (go_at_call 11; (with_reducible refine (HNX.out).mono ?_); rintro e w1 ⟨rfl, hr1, hk1⟩; have HR1 := Lib.hid hr1; have HK1 := Lib.hid hk1; clear hr1 hk1)
  have HL1 : Hid (LB w1 c1 Q.b1 Q.c1 (.slice lp ln lc)) := Lib.hid ((HK1.out _ (.inl (.inl rfl))).trans HX.out.rs.h1)
  have HT1 : Hid (TArg w1 (.slice lp ln lc) Q.t1) := Lib.hid (HX.out.rs.a1.below HR1.out.bel)
  refine rn_loop2 (oi := (.cells #[.int .i64 i0, .int .i64 i1, .bool i2] 35)) HL1 HT1 (Lib.hid HX.out.rs.ok) HM HL (Lib.hid LpRel.start) (fun cx ax kx vx wx hx => hP cx ax kx vx wx hx) ?_
  intro z27 z189 z190 z191 z192 z193 z194 z195 z196 z197 z198 z199 z200 z201 z202 z203 z204 z205 z206 z207 z208 z209 z210 z211 z212 z213 z214 z215 z216 z217 z218 W hlp
  dsimp only
  obtain ⟨i, ei, hi, hb, h1, h2⟩ := hlp
  obtain rfl : i = 8 := by injection ei with _ ei; omega
  have HB := Lib.hid hb
  have H1 := Lib.hid h1
  have H2 := Lib.hid h2
  have HR2 := Lib.hid ((HR1.out.box (.cells #[.int .i64 i0, .int .i64 i1, .bool i2] 35)).below (below_box hb h1))
  have HPK := Lib.hid (rt_qpick HR2.out (HPX.out b) HX.out.rs.gd)
  have m0 := o8_cells _ h2 (k := 0) (by omega)
  have m1 := o8_cells _ h2 (k := 1) (by omega)
  have m2 := o8_cells _ h2 (k := 2) (by omega)
  have m3 := o8_cells _ h2 (k := 3) (by omega)
  have m4 := o8_cells _ h2 (k := 4) (by omega)
  have m5 := o8_cells _ h2 (k := 5) (by omega)
  have m6 := o8_cells _ h2 (k := 6) (by omega)
  have m7 := o8_cells _ h2 (k := 7) (by omega)
  simp only [Nat.reduceLT, if_true] at m0 m1 m2 m3 m4 m5 m6 m7
  have t0 : W.cell? ⟨w1.heap.size, 0, none⟩ = some (.int .i64 i0) := cell_of_row _ _ 0 _ _ _ h1
  have t1 : W.cell? ⟨w1.heap.size, 1, none⟩ = some (.int .i64 i1) := cell_of_row _ _ 1 _ _ _ h1
  have t2 : W.cell? ⟨w1.heap.size, 2, none⟩ = some (.bool i2) := cell_of_row _ _ 2 _ _ _ h1
  clear hb h1 h2 ei hi
  go_wp2_with (go_at_call 22; refine (HPK.out).mono ?_; rintro e w5 ⟨rfl, hr5, hk5⟩; have HR5 := Lib.hid hr5; have HK5 := Lib.hid hk5; have r0 : w5.cell? ⟨w1.heap.size, 0, none⟩ = some (.int .i64 i0) := cell_of_row _ _ 0 _ _ _ ((hk5 _ (.inr rfl)).trans H1.out); have r1 : w5.cell? ⟨w1.heap.size, 1, none⟩ = some (.int .i64 i1) := cell_of_row _ _ 1 _ _ _ ((hk5 _ (.inr rfl)).trans H1.out); have r2 : w5.cell? ⟨w1.heap.size, 2, none⟩ = some (.bool i2) := cell_of_row _ _ 2 _ _ _ ((hk5 _ (.inr rfl)).trans H1.out); have f0 : w1.heap.size < w5.heap.size := block_lt_cell r0; have f1 : ¬ w1.heap.size = w5.heap.size := Nat.ne_of_lt f0; have f2 : ¬ w5.heap.size = w1.heap.size := fun e => f1 e.symm; clear hr5 hk5)
  have hb6 := bAl (bRef w5) (.cells #[.int .i64 i0, .int .i64 i1, .bool i2] 35)
  have hr6 := (HR5.out.sub (Y := fun j => (j = c1 ∨ j = c2) ∨ j = g) (fun _ h => .inl h)).below hb6
  refine HK.out _ _ _ _ _ _ _ _ _ _ _ _ _ _ _ _ _ _ _ _ _ _ _ _ _ _ _ _ _ _ _ _ _ _ _ _ _ _ _ _ _ _ _ _ _ _ _ _ _ _ _ _ _ _ _ _ _ _ _ _ _ _ _ _ _ _ _ s' (HX.out.keep hr6 (HK1.out.trans (fun j hj => ?_)) (fun x hx => (turn_turn p hx).trans (HX.out.rs.sim x hx)) ⟨rfl, rfl, rfl, rfl, rfl, rfl⟩ HX.out.rs.ok HGS.out (by rw [HRS.out]; exact HX.out.rs.rr))
  have q1 := HR1.out.keptB HB.out j hj
  have q2 := HK5.out j (.inl hj)
  have q3 := HR5.out.keptB hb6 j (.inl hj)
  exact (q3.trans q2).trans q1

end Go.Proofs.Ytlpijhopllhccaa
