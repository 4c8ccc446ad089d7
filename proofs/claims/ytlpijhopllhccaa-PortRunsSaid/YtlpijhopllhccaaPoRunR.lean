/- PortRuns: its great loop in declarations of its own. Written by gen_porunlp.py. -/
import Derived.Test.YtlpijhopllhccaaPoRunS
namespace Go.Proofs.Ytlpijhopllhccaa
open Go.RowKit Go.Joins

set_option maxRecDepth 1000000 in
set_option maxHeartbeats 16000000 in
theorem rn_round {w wr : World} {k L b c1 c2 n cc i : Nat} {pa : Option Addr} {p Q : PL} {u1 u2 : Value} {s : LS} {now : Int} {Q0 : Exit → Act → World → Prop} {a0 a1 a2 a3 a4 a5 a6 a8 a9 a10 a11 a12 a13 a15 a21 a22 a23 a24 a25 a26 a27 a28 a29 a30 a31 a32 a33 a34 a35 a36 a37 a38 a39 a40 a41 a42 a43 a44 a45 a46 a47 a48 a49 a50 a51 a52 a53 a54 a55 a56 a57 a58 a59 a60 a61 a62 a63 a64 a65 a66 a67 a68 a69 a70 a71 a72 a73 a74 a75 a76 a77 a78 a79 a80 a81 a82 a83 a84 a85 a86 a87 a88 a89 a90 a91 a92 a93 a94 a95 a96 a97 a98 a99 a100 a101 a102 a103 a104 a105 a106 a107 a108 a109 a110 a111 a112 a113 a114 a115 a116 a117 a118 a119 a120 a121 a122 a124 a126 a127 a128 a129 a130 a131 a132 a133 a134 a135 a136 a137 a138 a139 a140 a141 a142 a143 a144 a145 a146 a147 a148 a149 a150 a151 a152 a153 a154 a155 a156 a157 a158 a159 a160 a161 a162 a163 a164 a165 a166 a167 a168 a169 a170 a171 a172 a173 a174 a175 a176 a177 a178 a179 a180 a181 a182 a183 a184 a185 a186 a187 a188 a189 a190 a191 a192 a193 a194 a195 a196 a197 a198 a199 a200 a201 a202 a203 a204 a205 a206 a207 a208 a209 a210 a211 a212 a213 a214 a215 a216 a217 a218 a219 a220 a221 a222 a223 a224 a225 a226 a227 a228 a229 a230 a231 a232 a233 a234 a235 a236 a237 a238 a239 a240 a241 a242 a243 a244 a245 a246 a247 a248 a249 a250 a251 a252 a253 a254 a255 a256 a257 a258 a259 a260 a261 a262 a263 a264 a265 a266 a267 a268 a269 a270 a271 a272 a273 a274 a275 a276 a277 a278 a279 a280 a281 a282 a283 a284 a285 a286 a287 a288 a289 a290 a291 a292 a293 a294 a295 : Value} (hn0 : 0 ≤ now) (hn1 : now ≤ (i : Int) * 1073741824) (hrn : RnS w k L b c1 c2 (fun j => j = c1 ∨ j = c2) p Q u1 u2 s now wr) (HSA : Hid (SArg w (.slice pa n cc) n)) (HN80 : Hid (n ≤ 80)) (g : i < n) (hP : ∀ c (ax : Act) (kx : Option Nat) (vx : Value) (wx : World), Q0 (.panic c) (ax.put kx vx) wx → Q0 (.panic c) ax wx)
    (hQ : ∀ (z6 z22 z23 z24 z25 z26 z27 z28 z29 z30 z31 z32 z127 z128 z129 z130 z131 z132 z133 z134 z135 z136 z137 z138 z139 z140 z141 z142 z143 z144 z145 z146 z147 z148 z149 z150 z151 z152 z153 z154 z155 z156 z157 z158 z159 z160 z161 z162 z163 z164 z165 z166 z167 z168 z169 z170 z171 z172 z173 z174 z175 z176 z177 z178 z179 z180 z181 z182 z183 z184 z185 z186 z187 z188 z189 z190 z191 z192 z193 z194 z195 z196 z197 z198 z199 z200 z201 z202 z203 z204 z205 z206 z207 z208 z209 z210 z211 z212 z213 z214 z215 z216 z217 z218 z219 z220 z221 z222 z223 z224 z225 z226 z227 z228 z229 z230 z231 z232 z233 z234 z235 z236 z237 z238 z239 z240 z241 z242 z243 z244 z245 z246 z247 z248 z249 z250 z251 z252 z253 z254 z255 z256 z257 z258 z259 z260 z261 z262 z263 z264 z265 z266 z267 z268 z269 z270 z271 z272 z273 z274 z275 z276 z277 z278 z279 z280 z281 z282 z283 z284 z285 z286 z287 z288 z289 z290 z291 z292 z293 z294 z295 nv fv wv : Value) (W : World), RnRel w k L b c1 c2 n nv fv wv (.int .i64 ((i + 1 : Nat) : Int)) W → Q0 .normal ⟨#[a0, a1, a2, a3, a4, a5, z6, .pointer (some ⟨k, 0, none⟩), a8, a9, a10, a11, a12, a13, .pointer (some ⟨b, 0, none⟩), a15, nv, .pointer (some ⟨c1, 0, none⟩), .pointer (some ⟨c2, 0, none⟩), fv, wv, a21, z22, z23, z24, z25, z26, z27, z28, z29, z30, z31, z32, a33, a34, a35, a36, a37, a38, a39, a40, a41, a42, a43, a44, a45, a46, a47, a48, a49, a50, a51, a52, a53, a54, a55, a56, a57, a58, a59, a60, a61, a62, a63, a64, a65, a66, a67, a68, a69, a70, a71, a72, a73, a74, a75, a76, a77, a78, a79, a80, a81, a82, a83, a84, a85, a86, a87, a88, a89, a90, a91, a92, a93, a94, a95, a96, a97, a98, a99, a100, a101, a102, a103, a104, a105, a106, a107, a108, a109, a110, a111, a112, a113, a114, a115, a116, a117, a118, a119, a120, a121, a122, .slice pa n cc, a124, .int .i64 ((i + 1 : Nat) : Int), a126, z127, z128, z129, z130, z131, z132, z133, z134, z135, z136, z137, z138, z139, z140, z141, z142, z143, z144, z145, z146, z147, z148, z149, z150, z151, z152, z153, z154, z155, z156, z157, z158, z159, z160, z161, z162, z163, z164, z165, z166, z167, z168, z169, z170, z171, z172, z173, z174, z175, z176, z177, z178, z179, z180, z181, z182, z183, z184, z185, z186, z187, z188, z189, z190, z191, z192, z193, z194, z195, z196, z197, z198, z199, z200, z201, z202, z203, z204, z205, z206, z207, z208, z209, z210, z211, z212, z213, z214, z215, z216, z217, z218, z219, z220, z221, z222, z223, z224, z225, z226, z227, z228, z229, z230, z231, z232, z233, z234, z235, z236, z237, z238, z239, z240, z241, z242, z243, z244, z245, z246, z247, z248, z249, z250, z251, z252, z253, z254, z255, z256, z257, z258, z259, z260, z261, z262, z263, z264, z265, z266, z267, z268, z269, z270, z271, z272, z273, z274, z275, z276, z277, z278, z279, z280, z281, z282, z283, z284, z285, z286, z287, z288, z289, z290, z291, z292, z293, z294, z295], []⟩ W) :
    Code.wp Try.prog (partOf 23 0) Q0 ⟨#[a0, a1, a2, a3, a4, a5, a6, .pointer (some ⟨k, 0, none⟩), a8, a9, a10, a11, a12, a13, .pointer (some ⟨b, 0, none⟩), a15, .int .i64 now, .pointer (some ⟨c1, 0, none⟩), .pointer (some ⟨c2, 0, none⟩), .int .i64 Q.fr, .bool Q.wt, a21, a22, a23, a24, a25, a26, a27, a28, a29, a30, a31, a32, a33, a34, a35, a36, a37, a38, a39, a40, a41, a42, a43, a44, a45, a46, a47, a48, a49, a50, a51, a52, a53, a54, a55, a56, a57, a58, a59, a60, a61, a62, a63, a64, a65, a66, a67, a68, a69, a70, a71, a72, a73, a74, a75, a76, a77, a78, a79, a80, a81, a82, a83, a84, a85, a86, a87, a88, a89, a90, a91, a92, a93, a94, a95, a96, a97, a98, a99, a100, a101, a102, a103, a104, a105, a106, a107, a108, a109, a110, a111, a112, a113, a114, a115, a116, a117, a118, a119, a120, a121, a122, .slice pa n cc, a124, .int .i64 (i : Int), a126, a127, a128, a129, a130, a131, a132, a133, a134, a135, a136, a137, a138, a139, a140, a141, a142, a143, a144, a145, a146, a147, a148, a149, a150, a151, a152, a153, a154, a155, a156, a157, a158, a159, a160, a161, a162, a163, a164, a165, a166, a167, a168, a169, a170, a171, a172, a173, a174, a175, a176, a177, a178, a179, a180, a181, a182, a183, a184, a185, a186, a187, a188, a189, a190, a191, a192, a193, a194, a195, a196, a197, a198, a199, a200, a201, a202, a203, a204, a205, a206, a207, a208, a209, a210, a211, a212, a213, a214, a215, a216, a217, a218, a219, a220, a221, a222, a223, a224, a225, a226, a227, a228, a229, a230, a231, a232, a233, a234, a235, a236, a237, a238, a239, a240, a241, a242, a243, a244, a245, a246, a247, a248, a249, a250, a251, a252, a253, a254, a255, a256, a257, a258, a259, a260, a261, a262, a263, a264, a265, a266, a267, a268, a269, a270, a271, a272, a273, a274, a275, a276, a277, a278, a279, a280, a281, a282, a283, a284, a285, a286, a287, a288, a289, a290, a291, a292, a293, a294, a295], []⟩ wr := by
  have HK := Lib.hid hQ
  have hP2 := hP
  clear hQ
  conv => arg 2; whnf
  obtain ⟨qp, qc, rfl⟩ := hrn.a2.slice
  obtain ⟨qn, hqn⟩ : ∃ qn, Q.t2.length = qn := ⟨_, rfl⟩
  rw [hqn] at hrn
  clear hqn
  have ei : wrap64 ((i : Int) + 1) = ((i + 1 : Nat) : Int) := by have := HN80.out; unfold wrap64; omega
  obtain ⟨bx, ox, S, rfl, hok, hbx, x0, x1, x2, x3, x4, x5, x6, x7, x8⟩ := sg_at HSA.out g
  have hb := hrn.bel
  replace x0 := (hb.cell hbx).trans x0
  replace x1 := (hb.cell hbx).trans x1
  replace x2 := (hb.cell hbx).trans x2
  replace x3 := (hb.cell hbx).trans x3
  replace x4 := (hb.cell hbx).trans x4
  replace x5 := (hb.cell hbx).trans x5
  replace x6 := (hb.cell hbx).trans x6
  replace x7 := (hb.cell hbx).trans x7
  replace x8 := (hb.cell hbx).trans x8
  rcases S with ⟨sk, scl, sid, ssz, sdr, sd, sb, sc', ss, sts⟩
  obtain ⟨ps, cs, hss⟩ := hok.arg.slice
  dsimp only at x0 x1 x2 x3 x4 x5 x6 x7 x8 hss
  subst hss
  obtain ⟨ns, hns⟩ : ∃ ns, sts.length = ns := ⟨_, rfl⟩
  rw [hns] at x8 hok
  have HOK := Lib.hid hok
  have HNs := Lib.hid hns
  have HO : Hid (StB (wr.alloc (StO ⟨sk, scl, sid, ssz, sdr, sd, sb, sc', .slice ps ns cs, sts⟩)) wr.heap.size ⟨sk, scl, sid, ssz, sdr, sd, sb, sc', .slice ps ns cs, sts⟩) := Lib.hid (heap_alloc_one wr _)
  have HRT := Lib.hid (RnT.mk (hrn.box (StO ⟨sk, scl, sid, ssz, sdr, sd, sb, sc', .slice ps ns cs, sts⟩)) HO.out ⟨Nat.ne_of_lt (hrn.rt.xlt hrn.x1), Nat.ne_of_lt (hrn.rt.xlt hrn.x2)⟩)
  obtain ⟨y0, y1, y2, y3, y4, y5, y6, y7, y8⟩ := HO.out.cells
  have HRN := Lib.hid hrn
  have HN0 := Lib.hid (And.intro hn0 hn1)
  clear hb hok hns hrn hn0 hn1
  have HSK : Hid (∀ W, RnT w k L b c1 c2 wr.heap.size ⟨sk, scl, sid, ssz, sdr, sd, sb, sc', .slice ps ns cs, sts⟩ p Q u1 (.slice qp qn qc) s now W → RnRel w k L b c1 c2 n (.int .i64 now) (.int .i64 Q.fr) (.bool Q.wt) (.int .i64 ((i + 1 : Nat) : Int)) W) := Lib.hid (fun W h => h.rel (by omega) (by have := HN0.out; omega) (by have := HN0.out; omega))
  by_cases s1 : 64 < ns
  · have e0 : decide ((64 : Int) < (ns : Int)) = true := decide_eq_true (by omega)
    clear s1
    go_wp2_with fail
    exact HK.out _ _ _ _ _ _ _ _ _ _ _ _ _ _ _ _ _ _ _ _ _ _ _ _ _ _ _ _ _ _ _ _ _ _ _ _ _ _ _ _ _ _ _ _ _ _ _ _ _ _ _ _ _ _ _ _ _ _ _ _ _ _ _ _ _ _ _ _ _ _ _ _ _ _ _ _ _ _ _ _ _ _ _ _ _ _ _ _ _ _ _ _ _ _ _ _ _ _ _ _ _ _ _ _ _ _ _ _ _ _ _ _ _ _ _ _ _ _ _ _ _ _ _ _ _ _ _ _ _ _ _ _ _ _ _ _ _ _ _ _ _ _ _ _ _ _ _ _ _ _ _ _ _ _ _ _ _ _ _ _ _ _ _ _ _ _ _ _ _ _ _ _ _ _ _ _ _ _ _ _ _ _ _ _ _ (HSK.out _ HRT.out)
  have e0 : decide ((64 : Int) < (ns : Int)) = false := decide_eq_false (by omega)
  have HNS : Hid (ns ≤ 64) := Lib.hid (by omega)
  clear s1
  by_cases s2 : sd < 0
  · have e1 : decide (sd < 0) = true := decide_eq_true s2
    clear s2
    go_wp2_with fail
    exact HK.out _ _ _ _ _ _ _ _ _ _ _ _ _ _ _ _ _ _ _ _ _ _ _ _ _ _ _ _ _ _ _ _ _ _ _ _ _ _ _ _ _ _ _ _ _ _ _ _ _ _ _ _ _ _ _ _ _ _ _ _ _ _ _ _ _ _ _ _ _ _ _ _ _ _ _ _ _ _ _ _ _ _ _ _ _ _ _ _ _ _ _ _ _ _ _ _ _ _ _ _ _ _ _ _ _ _ _ _ _ _ _ _ _ _ _ _ _ _ _ _ _ _ _ _ _ _ _ _ _ _ _ _ _ _ _ _ _ _ _ _ _ _ _ _ _ _ _ _ _ _ _ _ _ _ _ _ _ _ _ _ _ _ _ _ _ _ _ _ _ _ _ _ _ _ _ _ _ _ _ _ _ _ _ _ _ (HSK.out _ HRT.out)
  have e1 : decide (sd < 0) = false := decide_eq_false s2
  by_cases s3 : 1073741824 < sd
  · have e2 : decide (1073741824 < sd) = true := decide_eq_true s3
    clear s2 s3
    go_wp2_with fail
    exact HK.out _ _ _ _ _ _ _ _ _ _ _ _ _ _ _ _ _ _ _ _ _ _ _ _ _ _ _ _ _ _ _ _ _ _ _ _ _ _ _ _ _ _ _ _ _ _ _ _ _ _ _ _ _ _ _ _ _ _ _ _ _ _ _ _ _ _ _ _ _ _ _ _ _ _ _ _ _ _ _ _ _ _ _ _ _ _ _ _ _ _ _ _ _ _ _ _ _ _ _ _ _ _ _ _ _ _ _ _ _ _ _ _ _ _ _ _ _ _ _ _ _ _ _ _ _ _ _ _ _ _ _ _ _ _ _ _ _ _ _ _ _ _ _ _ _ _ _ _ _ _ _ _ _ _ _ _ _ _ _ _ _ _ _ _ _ _ _ _ _ _ _ _ _ _ _ _ _ _ _ _ _ _ _ _ _ (HSK.out _ HRT.out)
  have e2 : decide (1073741824 < sd) = false := decide_eq_false s3
  have HD : Hid (0 ≤ sd ∧ sd ≤ 1073741824) := Lib.hid (by omega)
  clear s2 s3
  obtain ⟨z0, z1, z2⟩ := HRT.out.rs.h2.cells
  obtain ⟨S, hS⟩ : ∃ S : SP, S = ⟨sk, scl, sid, ssz, sdr, sd, sb, sc', .slice ps ns cs, sts⟩ := ⟨_, rfl⟩
  have HSS := Lib.hid hS
  have HRT : Hid (RnT w k L b c1 c2 wr.heap.size ⟨sk, scl, sid, ssz, sdr, sd, sb, sc', .slice ps ns cs, sts⟩ p Q u1 (.slice qp qn qc) s now (wr.alloc (.cells #[.int .i64 sk, .int .i64 scl, .int .i64 sid, .int .i64 ssz, .bool sdr, .int .i64 sd, .int .i64 sb, .int .i64 sc', .slice ps ns cs] 48))) := HRT
  rw [← hS] at HRT
  clear hS
  have HSS2 : Hid (S.sl = .slice ps ns cs ∧ S.ts.length = ns ∧ 0 ≤ S.d ∧ S.d ≤ 1073741824 ∧ S.Ok w) := Lib.hid (by rw [HSS.out]; exact ⟨rfl, HNs.out, HD.out.1, HD.out.2, HOK.out⟩)
  have HAS0 : Hid (TArg w (.slice ps ns cs) S.ts) := Lib.hid (by have h := HSS2.out.2.2.2.2.arg; rw [HSS2.out.1] at h; exact h)
  go_upto_if 143 with (fail)
  refine wp_cond_false (by go_simp) ?_
  go_step
  go_step
  go_step
  refine rn_body HRT (Lib.hid ⟨HN0.out.1, by have := HN0.out.2; have := HN80.out; omega, HSS2.out.2.2.1, HSS2.out.2.2.2.1⟩) (Lib.hid HSS2.out.1) HAS0 (Lib.hid (by rw [HSS2.out.2.1]; exact HNS.out)) (fun cx ax kx vx wx hx => hP2 cx ax kx vx wx hx) ?_
  intro z6 z23 z24 z25 z26 z27 z28 z29 z30 z31 z32 z144 z145 z146 z147 z148 z149 z150 z151 z152 z153 z154 z155 z156 z157 z158 z159 z160 z161 z162 z163 z164 z165 z166 z167 z168 z169 z170 z171 z172 z173 z174 z175 z176 z177 z178 z179 z180 z181 z182 z183 z184 z185 z186 z187 z188 z189 z190 z191 z192 z193 z194 z195 z196 z197 z198 z199 z200 z201 z202 z203 z204 z205 z206 z207 z208 z209 z210 z211 z212 z213 z214 z215 z216 z217 z218 z219 z220 z221 z222 z223 z224 z225 z226 z227 z228 z229 z230 z231 z232 z233 z234 z235 z236 z237 z238 z239 z240 z241 z242 z243 z244 z245 z246 z247 z248 z249 z250 z251 z252 z253 z254 z255 z256 z257 z258 z259 z260 z261 z262 z263 z264 z265 z266 z267 z268 z269 z270 z271 z272 z273 z274 z275 z276 z277 z278 z279 z280 z281 z282 z283 z284 z285 z286 z287 z288 z289 z290 z291 z292 z293 z294 nv fv wv W hr
  obtain ⟨p', Q', v1', v2', s', m, rfl, rfl, rfl, hm0, hm1, h2⟩ := hr
  have HR := Lib.hid h2
  have HM9 := Lib.hid (And.intro hm0 hm1)
  have HRR : Hid (RnRel w k L b c1 c2 n (.int .i64 m) (.int .i64 Q'.fr) (.bool Q'.wt) (.int .i64 ((i + 1 : Nat) : Int)) W) := Lib.hid (h2.rel (by omega) (by have := HN0.out; omega) (by have := HN0.out; omega))
  clear h2 hm0 hm1
  go_wp2_with fail
  exact HK.out _ _ _ _ _ _ _ _ _ _ _ _ _ _ _ _ _ _ _ _ _ _ _ _ _ _ _ _ _ _ _ _ _ _ _ _ _ _ _ _ _ _ _ _ _ _ _ _ _ _ _ _ _ _ _ _ _ _ _ _ _ _ _ _ _ _ _ _ _ _ _ _ _ _ _ _ _ _ _ _ _ _ _ _ _ _ _ _ _ _ _ _ _ _ _ _ _ _ _ _ _ _ _ _ _ _ _ _ _ _ _ _ _ _ _ _ _ _ _ _ _ _ _ _ _ _ _ _ _ _ _ _ _ _ _ _ _ _ _ _ _ _ _ _ _ _ _ _ _ _ _ _ _ _ _ _ _ _ _ _ _ _ _ _ _ _ _ _ _ _ _ _ _ _ _ _ _ _ _ _ _ _ _ _ _ HRR.out



set_option maxRecDepth 1000000 in
set_option maxHeartbeats 16000000 in
theorem rn_loop {w wc : World} {k L b c1 c2 n cc : Nat} {pa : Option Addr} {Q0 : Exit → Act → World → Prop} {a0 a1 a2 a3 a4 a5 a6 a8 a9 a10 a11 a12 a13 a15 a21 a22 a23 a24 a25 a26 a27 a28 a29 a30 a31 a32 a33 a34 a35 a36 a37 a38 a39 a40 a41 a42 a43 a44 a45 a46 a47 a48 a49 a50 a51 a52 a53 a54 a55 a56 a57 a58 a59 a60 a61 a62 a63 a64 a65 a66 a67 a68 a69 a70 a71 a72 a73 a74 a75 a76 a77 a78 a79 a80 a81 a82 a83 a84 a85 a86 a87 a88 a89 a90 a91 a92 a93 a94 a95 a96 a97 a98 a99 a100 a101 a102 a103 a104 a105 a106 a107 a108 a109 a110 a111 a112 a113 a114 a115 a116 a117 a118 a119 a120 a121 a122 a126 a127 a128 a129 a130 a131 a132 a133 a134 a135 a136 a137 a138 a139 a140 a141 a142 a143 a144 a145 a146 a147 a148 a149 a150 a151 a152 a153 a154 a155 a156 a157 a158 a159 a160 a161 a162 a163 a164 a165 a166 a167 a168 a169 a170 a171 a172 a173 a174 a175 a176 a177 a178 a179 a180 a181 a182 a183 a184 a185 a186 a187 a188 a189 a190 a191 a192 a193 a194 a195 a196 a197 a198 a199 a200 a201 a202 a203 a204 a205 a206 a207 a208 a209 a210 a211 a212 a213 a214 a215 a216 a217 a218 a219 a220 a221 a222 a223 a224 a225 a226 a227 a228 a229 a230 a231 a232 a233 a234 a235 a236 a237 a238 a239 a240 a241 a242 a243 a244 a245 a246 a247 a248 a249 a250 a251 a252 a253 a254 a255 a256 a257 a258 a259 a260 a261 a262 a263 a264 a265 a266 a267 a268 a269 a270 a271 a272 a273 a274 a275 a276 a277 a278 a279 a280 a281 a282 a283 a284 a285 a286 a287 a288 a289 a290 a291 a292 a293 a294 a295 : Value} (HC : Hid (RnRel w k L b c1 c2 n (.int .i64 0) (.int .i64 0) (.bool false) (.int .i64 0) wc)) (HSA : Hid (SArg w (.slice pa n cc) n)) (HN80 : Hid (n ≤ 80)) (hP : ∀ c (ax : Act) (kx : Option Nat) (vx : Value) (wx : World), Q0 (.panic c) (ax.put kx vx) wx → Q0 (.panic c) ax wx)
    (hQ : ∀ (z6 z16 z19 z20 z22 z23 z24 z25 z26 z27 z28 z29 z30 z31 z32 z125 z126 z127 z128 z129 z130 z131 z132 z133 z134 z135 z136 z137 z138 z139 z140 z141 z142 z143 z144 z145 z146 z147 z148 z149 z150 z151 z152 z153 z154 z155 z156 z157 z158 z159 z160 z161 z162 z163 z164 z165 z166 z167 z168 z169 z170 z171 z172 z173 z174 z175 z176 z177 z178 z179 z180 z181 z182 z183 z184 z185 z186 z187 z188 z189 z190 z191 z192 z193 z194 z195 z196 z197 z198 z199 z200 z201 z202 z203 z204 z205 z206 z207 z208 z209 z210 z211 z212 z213 z214 z215 z216 z217 z218 z219 z220 z221 z222 z223 z224 z225 z226 z227 z228 z229 z230 z231 z232 z233 z234 z235 z236 z237 z238 z239 z240 z241 z242 z243 z244 z245 z246 z247 z248 z249 z250 z251 z252 z253 z254 z255 z256 z257 z258 z259 z260 z261 z262 z263 z264 z265 z266 z267 z268 z269 z270 z271 z272 z273 z274 z275 z276 z277 z278 z279 z280 z281 z282 z283 z284 z285 z286 z287 z288 z289 z290 z291 z292 z293 z294 z295 : Value) (W : World), Below w.heap.size w W → Q0 (.exit 0) ⟨#[a0, a1, a2, a3, a4, a5, z6, .pointer (some ⟨k, 0, none⟩), a8, a9, a10, a11, a12, a13, .pointer (some ⟨b, 0, none⟩), a15, z16, .pointer (some ⟨c1, 0, none⟩), .pointer (some ⟨c2, 0, none⟩), z19, z20, a21, z22, z23, z24, z25, z26, z27, z28, z29, z30, z31, z32, a33, a34, a35, a36, a37, a38, a39, a40, a41, a42, a43, a44, a45, a46, a47, a48, a49, a50, a51, a52, a53, a54, a55, a56, a57, a58, a59, a60, a61, a62, a63, a64, a65, a66, a67, a68, a69, a70, a71, a72, a73, a74, a75, a76, a77, a78, a79, a80, a81, a82, a83, a84, a85, a86, a87, a88, a89, a90, a91, a92, a93, a94, a95, a96, a97, a98, a99, a100, a101, a102, a103, a104, a105, a106, a107, a108, a109, a110, a111, a112, a113, a114, a115, a116, a117, a118, a119, a120, a121, a122, .slice pa n cc, .int .i64 (n : Int), z125, z126, z127, z128, z129, z130, z131, z132, z133, z134, z135, z136, z137, z138, z139, z140, z141, z142, z143, z144, z145, z146, z147, z148, z149, z150, z151, z152, z153, z154, z155, z156, z157, z158, z159, z160, z161, z162, z163, z164, z165, z166, z167, z168, z169, z170, z171, z172, z173, z174, z175, z176, z177, z178, z179, z180, z181, z182, z183, z184, z185, z186, z187, z188, z189, z190, z191, z192, z193, z194, z195, z196, z197, z198, z199, z200, z201, z202, z203, z204, z205, z206, z207, z208, z209, z210, z211, z212, z213, z214, z215, z216, z217, z218, z219, z220, z221, z222, z223, z224, z225, z226, z227, z228, z229, z230, z231, z232, z233, z234, z235, z236, z237, z238, z239, z240, z241, z242, z243, z244, z245, z246, z247, z248, z249, z250, z251, z252, z253, z254, z255, z256, z257, z258, z259, z260, z261, z262, z263, z264, z265, z266, z267, z268, z269, z270, z271, z272, z273, z274, z275, z276, z277, z278, z279, z280, z281, z282, z283, z284, z285, z286, z287, z288, z289, z290, z291, z292, z293, z294, z295], []⟩ W) :
    Code.wp Try.prog (partOf 22 1) Q0 ⟨#[a0, a1, a2, a3, a4, a5, a6, .pointer (some ⟨k, 0, none⟩), a8, a9, a10, a11, a12, a13, .pointer (some ⟨b, 0, none⟩), a15, .int .i64 0, .pointer (some ⟨c1, 0, none⟩), .pointer (some ⟨c2, 0, none⟩), .int .i64 0, .bool false, a21, a22, a23, a24, a25, a26, a27, a28, a29, a30, a31, a32, a33, a34, a35, a36, a37, a38, a39, a40, a41, a42, a43, a44, a45, a46, a47, a48, a49, a50, a51, a52, a53, a54, a55, a56, a57, a58, a59, a60, a61, a62, a63, a64, a65, a66, a67, a68, a69, a70, a71, a72, a73, a74, a75, a76, a77, a78, a79, a80, a81, a82, a83, a84, a85, a86, a87, a88, a89, a90, a91, a92, a93, a94, a95, a96, a97, a98, a99, a100, a101, a102, a103, a104, a105, a106, a107, a108, a109, a110, a111, a112, a113, a114, a115, a116, a117, a118, a119, a120, a121, a122, .slice pa n cc, .int .i64 (n : Int), .int .i64 0, a126, a127, a128, a129, a130, a131, a132, a133, a134, a135, a136, a137, a138, a139, a140, a141, a142, a143, a144, a145, a146, a147, a148, a149, a150, a151, a152, a153, a154, a155, a156, a157, a158, a159, a160, a161, a162, a163, a164, a165, a166, a167, a168, a169, a170, a171, a172, a173, a174, a175, a176, a177, a178, a179, a180, a181, a182, a183, a184, a185, a186, a187, a188, a189, a190, a191, a192, a193, a194, a195, a196, a197, a198, a199, a200, a201, a202, a203, a204, a205, a206, a207, a208, a209, a210, a211, a212, a213, a214, a215, a216, a217, a218, a219, a220, a221, a222, a223, a224, a225, a226, a227, a228, a229, a230, a231, a232, a233, a234, a235, a236, a237, a238, a239, a240, a241, a242, a243, a244, a245, a246, a247, a248, a249, a250, a251, a252, a253, a254, a255, a256, a257, a258, a259, a260, a261, a262, a263, a264, a265, a266, a267, a268, a269, a270, a271, a272, a273, a274, a275, a276, a277, a278, a279, a280, a281, a282, a283, a284, a285, a286, a287, a288, a289, a290, a291, a292, a293, a294, a295], []⟩ wc := by
  have HK := Lib.hid hQ
  clear hQ
  conv => arg 2; whnf
  dsimp only
  go_loopw [16, 19, 20, 125] (fun nv fv wv iv wr => RnRel w k L b c1 c2 n nv fv wv iv wr) (fun _ _ _ iv _ => n - (intOf iv).toNat)
  case atStart => exact HC.out
  case round =>
    refine wp_hideP (fun cx ax kx vx wx hx => hP cx ax kx vx wx hx) (fun Q2 hQ2 hP2 => ?_)
    obtain ⟨i, p, Q, u1, u2, s, now, rfl, rfl, rfl, rfl, hi, hn0, hn1, hrn⟩ := hrel
    rcases Nat.lt_or_ge i n with g | g
    · have hd : decide ((i : Int) < (n : Int)) = true := decide_eq_true (by omega)
      have HRN := Lib.hid hrn
      have HHN := Lib.hid (And.intro hn0 hn1)
      clear hrn hn0 hn1
      go_upto_if 126 with (fail)
      refine wp_cond_true (by go_simp) ?_
      go_step
      go_step
      go_step
      refine rn_round HHN.out.1 HHN.out.2 HRN.out HSA HN80 g (fun cx ax kx vx wx hx => hP2 cx ax kx vx wx hx) ?_
      intro z6 z22 z23 z24 z25 z26 z27 z28 z29 z30 z31 z32 z127 z128 z129 z130 z131 z132 z133 z134 z135 z136 z137 z138 z139 z140 z141 z142 z143 z144 z145 z146 z147 z148 z149 z150 z151 z152 z153 z154 z155 z156 z157 z158 z159 z160 z161 z162 z163 z164 z165 z166 z167 z168 z169 z170 z171 z172 z173 z174 z175 z176 z177 z178 z179 z180 z181 z182 z183 z184 z185 z186 z187 z188 z189 z190 z191 z192 z193 z194 z195 z196 z197 z198 z199 z200 z201 z202 z203 z204 z205 z206 z207 z208 z209 z210 z211 z212 z213 z214 z215 z216 z217 z218 z219 z220 z221 z222 z223 z224 z225 z226 z227 z228 z229 z230 z231 z232 z233 z234 z235 z236 z237 z238 z239 z240 z241 z242 z243 z244 z245 z246 z247 z248 z249 z250 z251 z252 z253 z254 z255 z256 z257 z258 z259 z260 z261 z262 z263 z264 z265 z266 z267 z268 z269 z270 z271 z272 z273 z274 z275 z276 z277 z278 z279 z280 z281 z282 z283 z284 z285 z286 z287 z288 z289 z290 z291 z292 z293 z294 z295 nv fv wv W hr
      have HRR := Lib.hid hr
      clear hr
      dsimp only
      go_step
      go_roundw
      case rel => first | exact HRR.out | ((repeat apply Exists.intro); exact ⟨HRR.out, rfl⟩)
      case measure => simp [intOf]; omega
    · have hd : decide ((i : Int) < (n : Int)) = false := decide_eq_false (by omega)
      have HBE := Lib.hid hrn.bel
      clear hrn hn0 hn1
      go_wp2_with fail
      exact HK.out _ _ _ _ _ _ _ _ _ _ _ _ _ _ _ _ _ _ _ _ _ _ _ _ _ _ _ _ _ _ _ _ _ _ _ _ _ _ _ _ _ _ _ _ _ _ _ _ _ _ _ _ _ _ _ _ _ _ _ _ _ _ _ _ _ _ _ _ _ _ _ _ _ _ _ _ _ _ _ _ _ _ _ _ _ _ _ _ _ _ _ _ _ _ _ _ _ _ _ _ _ _ _ _ _ _ _ _ _ _ _ _ _ _ _ _ _ _ _ _ _ _ _ _ _ _ _ _ _ _ _ _ _ _ _ _ _ _ _ _ _ _ _ _ _ _ _ _ _ _ _ _ _ _ _ _ _ _ _ _ _ _ _ _ _ _ _ _ _ _ _ _ _ _ _ _ _ _ _ _ _ _ _ _ _ _ _ HBE.out


end Go.Proofs.Ytlpijhopllhccaa
