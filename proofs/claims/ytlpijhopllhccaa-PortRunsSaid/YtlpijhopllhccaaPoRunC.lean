/- PortRuns: kind 2 behind the list that is due, in a declaration of its own. Written by gen_poruns2.py. -/
import Derived.Test.YtlpijhopllhccaaPoRunN
namespace Go.Proofs.Ytlpijhopllhccaa
open Go.RowKit Go.Joins

theorem RnT.come {w wc w2 : World} {k L b c1 c2 g : Nat} {S : SP} {p Q : PL} {s : LS} {m : Int} {v1 v2 : Value} {ps : Option Addr} {ns cs : Nat} (h : RnT w k L b c1 c2 g S p Q v1 v2 s m wc) (hl : lawT Q m = Q) (hz : chkV S.b S.c S.ts = 0) (ha : TArg w (.slice ps ns cs) S.ts)
    (hr : RT w k L (p.chg S.b S.c S.ts m) s b s (fun j => (j = c1 ∨ j = c2) ∨ j = g) w2) (hk : Kept (fun j => (j = c1 ∨ j = c2) ∨ j = g) wc w2) :
    RnT w k L b c1 c2 g S (p.chg S.b S.c S.ts m) ⟨Q.b1, Q.c1, Q.t1, S.b, S.c, S.ts, (turnV S.b S.c S.ts (max m S.b)).1, true⟩ v1 (.slice ps ns cs) s m (((w2.setCell ⟨c2, 0, none⟩ (.int .i64 S.b)).setCell ⟨c2, 1, none⟩ (.int .i64 S.c)).setCell ⟨c2, 2, none⟩ (.slice ps ns cs)) := by
  have hch : p.chg S.b S.c S.ts m = ⟨Q.b1, Q.c1, Q.t1, S.b, S.c, S.ts, (turnV S.b S.c S.ts (max m S.b)).1, true⟩ := by
    have h5 := h.rs.sim.chg S.b S.c S.ts
    rw [hl] at h5
    rw [h5]
    exact if_pos rfl
  have hb3 := but3 (w := w2) (g := c2) (.int .i64 S.b) (.int .i64 S.c) (.slice ps ns cs)
  have hb : ButP (fun j => j = c2) w2 (((w2.setCell ⟨c2, 0, none⟩ (.int .i64 S.b)).setCell ⟨c2, 1, none⟩ (.int .i64 S.c)).setCell ⟨c2, 2, none⟩ (.slice ps ns cs)) := ⟨hb3.os, hb3.tape, hb3.output, hb3.size, fun j hj hn => hb3.block j hj hn⟩
  have e1 : LB w2 c1 Q.b1 Q.c1 v1 := (hk c1 (.inl (.inl rfl))).trans h.rs.h1
  have e2 : LB w2 c2 Q.b2 Q.c2 v2 := (hk c2 (.inl (.inr rfl))).trans h.rs.h2
  have e3 : StB w2 g S := (hk g (.inr rfl)).trans h.st
  have hfine : 0 ≤ (turnV S.b S.c S.ts (max m S.b)).1 ∧ (turnV S.b S.c S.ts (max m S.b)).1 ≤ 4398046511104 := by
    obtain ⟨F, G, hh⟩ := hr
    have h6 := hh.pl.fine
    rw [hch] at h6
    exact ⟨h6.f0, h6.f1⟩
  refine ⟨⟨hr.set (Y := fun j => j = c2) (fun j hj => by rw [hj]; exact ⟨.inl (.inr rfl), _, _, _, e2, by decide⟩) hb, .inl (.inl rfl), .inl (.inr rfl), h.rs.ne, (hb.block c1 (lt_of_heap e1) h.rs.ne).trans e1, set3_at e2 _ _ _, .of_eq (hch.trans (if_pos rfl).symm), ⟨h.rs.ok.c1, fun _ => hz, hfine.1, hfine.2⟩, h.rs.a1, ha, h.rs.gd, h.rs.rr⟩, (hb.block g (lt_of_heap e3) (Ne.symm h.ng.2)).trans e3, h.ng⟩
set_option maxRecDepth 1000000 in
set_option maxHeartbeats 16000000 in
theorem rn_k2b {w wc : World} {k L b c1 c2 g : Nat} {S : SP} {p Q : PL} {s : LS} {m : Int} {ps : Option Addr} {ns cs : Nat} {v1 v2 : Value} {Q0 : Exit → Act → World → Prop} {a0 a1 a2 a3 a4 a5 a6 a8 a9 a10 a11 a12 a13 a14 a15 a17 a21 a23 a24 a25 a26 a27 a28 a29 a30 a31 a32 a33 a34 a35 a36 a37 a38 a39 a40 a41 a42 a43 a44 a45 a46 a47 a48 a49 a50 a51 a52 a53 a54 a55 a56 a57 a58 a59 a60 a61 a62 a63 a64 a65 a66 a67 a68 a69 a70 a71 a72 a73 a74 a75 a76 a77 a78 a79 a80 a81 a82 a83 a84 a85 a86 a87 a88 a89 a90 a91 a92 a93 a94 a95 a96 a97 a98 a99 a100 a101 a102 a103 a104 a105 a106 a107 a108 a109 a110 a111 a112 a113 a114 a115 a116 a117 a118 a119 a120 a121 a122 a123 a124 a125 a126 a127 a128 a129 a130 a131 a132 a133 a134 a135 a136 a137 a138 a139 a140 a141 a142 a143 a144 a145 a146 a147 a148 a149 a150 a151 a152 a153 a154 a155 a156 a157 a158 a159 a160 a161 a162 a163 a164 a165 a166 a167 a168 a169 a170 a171 a172 a173 a174 a175 a176 a177 a178 a179 a180 a181 a182 a183 a184 a185 a186 a187 a188 a189 a190 a191 a192 a193 a194 a195 a196 a197 a198 a199 a200 a201 a202 a203 a204 a205 a206 a207 a208 a209 a210 a211 a212 a213 a214 a215 a216 a217 a218 a219 a220 a221 a222 a223 a224 a225 a226 a227 a228 a229 a230 a231 a232 a233 a234 a235 a236 a237 a238 a239 a240 a241 a242 a243 a244 a245 a246 a247 a248 a249 a250 a251 a252 a253 a254 a255 a256 a257 a258 a259 a260 a261 a262 a263 a264 a265 a266 a267 a268 a269 a270 a271 a272 a273 a274 a275 a276 a277 a278 a279 a280 a281 a282 a283 a284 a285 a286 a287 a288 a289 a290 a291 a292 a293 a294 a295 : Value}
    (HX : Hid (RnT w k L b c1 c2 g S p Q v1 v2 s m wc)) (HQ : Hid (lawT Q m = Q)) (HM : Hid (0 ≤ m ∧ m ≤ 1099511627776)) (HSL : Hid (S.sl = (.slice ps ns cs))) (HAS0 : Hid (TArg w (.slice ps ns cs) S.ts)) (HN : Hid (S.ts.length ≤ 64)) (hP : ∀ c (ax : Act) (kx : Option Nat) (vx : Value) (wx : World), Q0 (.panic c) (ax.put kx vx) wx → Q0 (.panic c) ax wx)
    (hQ : ∀ (z31 z252 z253 z254 z255 z256 z257 z258 z259 z260 z261 z262 z263 z264 z265 z266 z267 z268 z269 z270 z271 z272 z273 z274 : Value) (W : World) (p2 Q2 : PL) (v2' : Value), RnT w k L b c1 c2 g S p2 Q2 v1 v2' s m W → Q0 .normal ⟨#[a0, a1, a2, a3, a4, a5, a6, .pointer (some ⟨k, 0, none⟩), a8, a9, a10, a11, a12, a13, a14, a15, .int .i64 m, a17, .pointer (some ⟨c2, 0, none⟩), .int .i64 Q2.fr, .bool Q2.wt, a21, .pointer (some ⟨g, 0, none⟩), a23, a24, a25, a26, a27, a28, a29, a30, z31, a32, a33, a34, a35, a36, a37, a38, a39, a40, a41, a42, a43, a44, a45, a46, a47, a48, a49, a50, a51, a52, a53, a54, a55, a56, a57, a58, a59, a60, a61, a62, a63, a64, a65, a66, a67, a68, a69, a70, a71, a72, a73, a74, a75, a76, a77, a78, a79, a80, a81, a82, a83, a84, a85, a86, a87, a88, a89, a90, a91, a92, a93, a94, a95, a96, a97, a98, a99, a100, a101, a102, a103, a104, a105, a106, a107, a108, a109, a110, a111, a112, a113, a114, a115, a116, a117, a118, a119, a120, a121, a122, a123, a124, a125, a126, a127, a128, a129, a130, a131, a132, a133, a134, a135, a136, a137, a138, a139, a140, a141, a142, a143, a144, a145, a146, a147, a148, a149, a150, a151, a152, a153, a154, a155, a156, a157, a158, a159, a160, a161, a162, a163, a164, a165, a166, a167, a168, a169, a170, a171, a172, a173, a174, a175, a176, a177, a178, a179, a180, a181, a182, a183, a184, a185, a186, a187, a188, a189, a190, a191, a192, a193, a194, a195, a196, a197, a198, a199, a200, a201, a202, a203, a204, a205, a206, a207, a208, a209, a210, a211, a212, a213, a214, a215, a216, a217, a218, a219, a220, a221, a222, a223, a224, a225, a226, a227, a228, a229, a230, a231, a232, a233, a234, a235, a236, a237, a238, a239, a240, a241, a242, a243, a244, a245, a246, a247, a248, a249, a250, a251, z252, z253, z254, z255, z256, z257, z258, z259, z260, z261, z262, z263, z264, z265, z266, z267, z268, z269, z270, z271, z272, z273, z274, a275, a276, a277, a278, a279, a280, a281, a282, a283, a284, a285, a286, a287, a288, a289, a290, a291, a292, a293, a294, a295], []⟩ W) :
    Code.wp Try.prog (partOf 56 0) Q0 ⟨#[a0, a1, a2, a3, a4, a5, a6, .pointer (some ⟨k, 0, none⟩), a8, a9, a10, a11, a12, a13, a14, a15, .int .i64 m, a17, .pointer (some ⟨c2, 0, none⟩), .int .i64 Q.fr, .bool Q.wt, a21, .pointer (some ⟨g, 0, none⟩), a23, a24, a25, a26, a27, a28, a29, a30, a31, a32, a33, a34, a35, a36, a37, a38, a39, a40, a41, a42, a43, a44, a45, a46, a47, a48, a49, a50, a51, a52, a53, a54, a55, a56, a57, a58, a59, a60, a61, a62, a63, a64, a65, a66, a67, a68, a69, a70, a71, a72, a73, a74, a75, a76, a77, a78, a79, a80, a81, a82, a83, a84, a85, a86, a87, a88, a89, a90, a91, a92, a93, a94, a95, a96, a97, a98, a99, a100, a101, a102, a103, a104, a105, a106, a107, a108, a109, a110, a111, a112, a113, a114, a115, a116, a117, a118, a119, a120, a121, a122, a123, a124, a125, a126, a127, a128, a129, a130, a131, a132, a133, a134, a135, a136, a137, a138, a139, a140, a141, a142, a143, a144, a145, a146, a147, a148, a149, a150, a151, a152, a153, a154, a155, a156, a157, a158, a159, a160, a161, a162, a163, a164, a165, a166, a167, a168, a169, a170, a171, a172, a173, a174, a175, a176, a177, a178, a179, a180, a181, a182, a183, a184, a185, a186, a187, a188, a189, a190, a191, a192, a193, a194, a195, a196, a197, a198, a199, a200, a201, a202, a203, a204, a205, a206, a207, a208, a209, a210, a211, a212, a213, a214, a215, a216, a217, a218, a219, a220, a221, a222, a223, a224, a225, a226, a227, a228, a229, a230, a231, a232, a233, a234, a235, a236, a237, a238, a239, a240, a241, a242, a243, a244, a245, a246, a247, a248, a249, a250, a251, a252, a253, a254, a255, a256, a257, a258, a259, a260, a261, a262, a263, a264, a265, a266, a267, a268, a269, a270, a271, a272, a273, a274, a275, a276, a277, a278, a279, a280, a281, a282, a283, a284, a285, a286, a287, a288, a289, a290, a291, a292, a293, a294, a295], []⟩ wc := by
  have HK := Lib.hid hQ
  have HAS := Lib.hid (fun W (hb : Below w.heap.size w W) => HAS0.out.below hb)
  have HNE : Hid (0 < S.ts.length → (Value.slice ps ns cs).ownBlock ≠ some k) := Lib.hid (fun h0 e => by have h1 := HAS0.out.lt h0 e; have h2 := HX.out.rs.rt.klow; omega)
  have HCH := Lib.hid (fun W (h : TArg W (.slice ps ns cs) S.ts) => check_any S.b S.c (.slice ps ns cs) S.ts W h)
  obtain ⟨y0, y1, y2, y3, y4, y5, y6, y7, y8⟩ := HX.out.st.cells
  rw [HSL.out] at y8
  clear hQ
  by_cases hz : chkV S.b S.c S.ts = 0
  · have HZ := Lib.hid hz
    have HCG := Lib.hid (rt_pchange HX.out.rs.rt S.b S.c (.slice ps ns cs) S.ts (HAS.out _ HX.out.rs.bel) HNE.out hz m HM.out)
    rw [hz] at HCH
    have HPN := Lib.hid (fun W (h : TArg W (.slice ps ns cs) S.ts) => plain_any (b := S.b) (c := S.c) h (by have := HN.out; omega))
    have HIX : Hid (inT (max m S.b)) := Lib.hid (by have h1 := (chk_good hz).b0; have h2 := (chk_good hz).b1; have := HM.out; unfold inT; omega)
    clear hz
    conv => arg 2; whnf
    go_upto_region 60 with (first
      | (go_at_call 14; (with_reducible refine (HCG.out).mono ?_); rintro e w1 ⟨rfl, hr1, hk1⟩; have HR1 := Lib.hid hr1; have HK1 := Lib.hid hk1; obtain ⟨x0, x1, x2, x3, x4, x5, x6, x7, x8⟩ := StB.cells ((hk1 g (.inr rfl)).trans HX.out.st); rw [HSL.out] at x8; clear hr1 hk1)
      | (go_at_call 10; (with_reducible refine (HCH.out _ (HAS.out _ HR1.out.bel)).mono ?_); rintro e w2 ⟨rfl, hb2⟩; have HR2 := Lib.hid (HR1.out.below hb2); have HK2 := Lib.hid (HK1.out.trans (HR1.out.keptB hb2)); obtain ⟨u0, u1, u2, u3, u4, u5, u6, u7, u8⟩ := StB.cells ((HK2.out g (.inr rfl)).trans HX.out.st); rw [HSL.out] at u8; clear hb2))
    obtain ⟨n0, n1, n2⟩ := LB.cells ((HK2.out c2 (.inl (.inr rfl))).trans HX.out.rs.h2)
    obtain ⟨nf0, nf1, nf2⟩ : w2.frozen? ⟨c2, 0, none⟩ = false ∧ w2.frozen? ⟨c2, 1, none⟩ = false ∧ w2.frozen? ⟨c2, 2, none⟩ = false := ⟨frozen_of_row _ _ _ _ _ ((HK2.out c2 (.inl (.inr rfl))).trans HX.out.rs.h2), frozen_of_row _ _ _ _ _ ((HK2.out c2 (.inl (.inr rfl))).trans HX.out.rs.h2), frozen_of_row _ _ _ _ _ ((HK2.out c2 (.inl (.inr rfl))).trans HX.out.rs.h2)⟩
    have HC3 := Lib.hid (HX.out.come HQ.out HZ.out HAS0.out HR2.out HK2.out)
    go_upto_region 61 with (fail)
    refine wp_region_held_drew (S := fun U => StB U g S) (by kernel_rfl) (HC3.out.below (bDr1 (bRef _))).st (fun h0 => ?_)
    have h9 := HC3.out.below (bDr1 (bRef _))
    refine hTakeS (i := 0) (k := 266) (v := .pointer (some ⟨g, 6, none⟩)) rfl rfl (by kernel_rfl) (by kernel_rfl) (by kernel_rfl) (fun cx ax wx hx => hP cx ax _ _ wx hx) (yieldsIf_val (by rfl) (by intro W; go_simp)) h0 ?_
    simp only [List.setIfInBounds_toArray, List.set_cons_zero, List.set_cons_succ]
    refine hTakeS (i := 1) (k := 267) (v := LV S.b S.c (.slice ps ns cs)) rfl rfl (by kernel_rfl) (by kernel_rfl) (by kernel_rfl) (fun cx ax wx hx => hP cx ax _ _ wx hx) (.inl ⟨by rfl, fun W hW => by obtain ⟨b0, b1, b2, b3, b4, b5, b6, b7, b8⟩ := StB.cells hW; rw [HSL.out] at b8; go_simp⟩) h0 ?_
    simp only [List.setIfInBounds_toArray, List.set_cons_zero, List.set_cons_succ]
    refine hTakeS (i := 3) (k := 269) (v := .int .i64 m) rfl rfl (by kernel_rfl) (by kernel_rfl) (by kernel_rfl) (fun cx ax wx hx => hP cx ax _ _ wx hx) (yieldsIf_val (by rfl) (by intro W; go_simp)) h0 ?_
    simp only [List.setIfInBounds_toArray, List.set_cons_zero, List.set_cons_succ]
    refine hTakeS (i := 4) (k := 270) (v := .pointer (some ⟨g, 6, none⟩)) rfl rfl (by kernel_rfl) (by kernel_rfl) (by kernel_rfl) (fun cx ax wx hx => hP cx ax _ _ wx hx) (yieldsIf_val (by rfl) (by intro W; go_simp)) h0 ?_
    simp only [List.setIfInBounds_toArray, List.set_cons_zero, List.set_cons_succ]
    refine hTakeS (i := 5) (k := 271) (v := .pointer (some ⟨g, 6, none⟩)) rfl rfl (by kernel_rfl) (by kernel_rfl) (by kernel_rfl) (fun cx ax wx hx => hP cx ax _ _ wx hx) (yieldsIf_val (by rfl) (by intro W; go_simp)) h0 ?_
    simp only [List.setIfInBounds_toArray, List.set_cons_zero, List.set_cons_succ]
    refine hTakeS (i := 6) (k := 272) (v := .int .i64 S.b) rfl rfl (by kernel_rfl) (by kernel_rfl) (by kernel_rfl) (fun cx ax wx hx => hP cx ax _ _ wx hx) (.inl ⟨by rfl, fun W hW => by obtain ⟨b0, b1, b2, b3, b4, b5, b6, b7, b8⟩ := StB.cells hW; go_simp⟩) h0 ?_
    simp only [List.setIfInBounds_toArray, List.set_cons_zero, List.set_cons_succ]
    refine hTakeS (i := 7) (k := 273) (v := .int .i64 (max m S.b)) rfl rfl (by kernel_rfl) (by kernel_rfl) (by kernel_rfl) (fun cx ax wx hx => hP cx ax _ _ wx hx) (yieldsIf_val (by rfl) (by intro W; go_simp)) h0 ?_
    simp only [List.setIfInBounds_toArray, List.set_cons_zero, List.set_cons_succ]
    refine hCallR (i := 2) (k := 268) (by kernel_rfl) rfl rfl (by rfl) 21 #[LV S.b S.c (.slice ps ns cs)] (by go_simp) (HPN.out _ (HAS.out _ h9.rs.bel)) ?_
    rintro e x1 ⟨sl2, rfl, ht2, hb1⟩
    have s1 := (hb1.block _ (lt_of_heap h0)).trans h0
    have h8 := h9.below hb1
    refine ⟨_, rfl, s1, ?_⟩
    simp only [List.setIfInBounds_toArray, List.set_cons_zero, List.set_cons_succ]
    refine hCallR (i := 8) (k := 274) (by kernel_rfl) rfl rfl (by rfl) 23 #[LV S.b S.c sl2, .int .i64 (max m S.b)] (by go_simp) (rturn_any (sl := sl2) (max m S.b) HZ.out HIX.out _) ?_
    rintro e x2 ⟨rfl, hb2⟩
    have s2 := (hb2.block _ (lt_of_heap s1)).trans s1
    have HX2 := Lib.hid (h8.below hb2)
    refine ⟨_, rfl, s2, ?_⟩
    simp only [List.setIfInBounds_toArray, List.set_cons_zero, List.set_cons_succ]
    refine hTakeS (i := 9) (k := 19) (v := .int .i64 (turnV S.b S.c S.ts (max m S.b)).1) rfl rfl (by kernel_rfl) (by kernel_rfl) (by kernel_rfl) (fun cx ax wx hx => hP cx ax _ _ wx hx) (yieldsIf_val (by rfl) (by intro W; go_simp)) s2 ?_
    simp only [List.setIfInBounds_toArray, List.set_cons_zero, List.set_cons_succ]
    refine wpAnyH_done (by kernel_rfl) ?_ _
    clear h0 s1 s2 h9 h8 hb1 hb2 ht2
    go_wp2_with fail
    exact HK.out _ _ _ _ _ _ _ _ _ _ _ _ _ _ _ _ _ _ _ _ _ _ _ _ _ _ _ _ HX2.out
  · have HCG := Lib.hid (rt_pchange_bad HX.out.rs.rt S.b S.c (.slice ps ns cs) S.ts (HAS.out _ HX.out.rs.bel) hz m)
    obtain ⟨Z, hZ⟩ : ∃ Z, chkV S.b S.c S.ts = Z := ⟨_, rfl⟩
    rw [hZ] at HCG HCH hz
    have zb : (Z == 0) = false := by simpa using hz
    have zd : decide (Z = 0) = false := decide_eq_false hz
    clear hZ
    conv => arg 2; whnf
    go_wp2_with (first
      | (go_at_call 14; (with_reducible refine (HCG.out).mono ?_); rintro e w1 ⟨rfl, hr1, hk1⟩; have HR1 := Lib.hid hr1; have HK1 := Lib.hid hk1; obtain ⟨x0, x1, x2, x3, x4, x5, x6, x7, x8⟩ := StB.cells ((hk1 g (.inr rfl)).trans HX.out.st); rw [HSL.out] at x8; clear hr1 hk1)
      | (go_at_call 10; (with_reducible refine (HCH.out _ (HAS.out _ HR1.out.bel)).mono ?_); rintro e w2 ⟨rfl, hb2⟩; have HR2 := Lib.hid (HR1.out.below hb2); have HK2 := Lib.hid (HK1.out.trans (HR1.out.keptB hb2)); clear hb2))
    exact HK.out _ _ _ _ _ _ _ _ _ _ _ _ _ _ _ _ _ _ _ _ _ _ _ _ _ p Q v2 (HX.out.keep HR2.out HK2.out HX.out.rs.sim ⟨rfl, rfl, rfl, rfl, rfl, rfl⟩ HX.out.rs.ok HX.out.rs.gd HX.out.rs.rr)

end Go.Proofs.Ytlpijhopllhccaa
