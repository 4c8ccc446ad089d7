/- PairRuns: steps of kind 0 and 1, in declarations of their own. Written by gen_prruns.py. -/
import Derived.Test.YtfeoppbincldfaaPrRunB
namespace Go.Proofs.Ytfeoppbincldfaa
open Go.RowKit Go.Joins Go.Deep

set_option maxRecDepth 1000000 in
set_option maxHeartbeats 16000000 in
theorem rn_k0_0 {I : Ids} {w W : World} {s : PP} {st : Stp} {g : Nat} {a0 a1 a3 a4 a6 a7 a8 a9 a10 a16 a18 a20 a21 a22 a23 a24 a25 a26 a27 a28 a29 a30 a31 a32 a33 a34 a35 a36 a37 a38 a39 a40 a41 a42 a43 a44 a45 a46 a47 a48 a49 a50 a51 a52 a53 a54 a55 a56 a57 a58 a59 a60 a61 a62 a63 a64 a65 a66 a67 a68 a69 a70 a71 a72 a73 a74 a75 a76 a77 a78 a79 a80 a81 a82 a83 a84 a85 a86 a87 a88 a89 a90 a91 a92 a93 a94 a95 a96 a97 a98 a99 a100 a101 a102 a103 a104 a105 a106 a107 a108 a109 a110 a111 a112 a113 a114 a115 a116 a117 a118 a119 a120 a121 a122 a123 a124 a125 a126 a127 a128 a129 a130 a131 a132 a133 a134 a135 a136 a137 a138 a139 a140 a141 a142 a143 a144 a145 a146 a147 a148 a149 a150 a151 a152 a153 a154 a155 a156 a157 a158 a159 a160 a161 a162 a163 a164 a165 a166 a167 a168 a169 a170 a171 a172 a173 a174 a175 a176 a177 a178 a179 a180 a181 a182 a183 a184 a185 a186 a187 a188 a189 a190 a191 a192 a193 a194 a195 a196 a197 a198 a199 a200 a201 a202 a203 a204 a205 a206 a207 a208 a209 a210 a211 a212 a213 a214 a215 a216 a217 a218 a219 a220 a221 a222 a223 a224 a225 a226 a227 a228 a229 a230 a231 a232 a233 a234 a235 a236 a237 a238 a239 a240 a241 a242 a243 a244 a245 a246 a247 a248 a249 a250 a251 a252 a253 a254 a255 a256 a257 a258 a259 a260 a261 a262 a263 a264 a265 a266 a267 a268 a269 a270 a271 a272 a273 a274 a275 a276 a277 a278 a279 a280 a281 a282 a283 a284 a285 a286 a287 a288 a289 a290 a291 a292 a293 a294 a295 a296 a297 a298 a299 a300 a301 a302 a303 a304 a305 a306 a307 a308 a309 a310 a311 a312 a313 a314 a315 a316 a317 a318 a319 a320 a321 a322 a323 a324 a325 a326 a327 a328 a329 a330 a331 a332 a333 a334 a335 a336 a337 a338 a339 a340 a341 a342 a343 a344 a345 a346 a347 a348 a349 a350 a351 a352 a353 a354 a355 a356 a357 a358 a359 a360 a361 a362 a363 a364 a365 a366 a367 : Value} {Q0 : Exit → Act → World → Prop}
    (hk : RunP I W s s) (ok : s.Ok) (hg : StB W g st) (hst : st.Ok w) (hbw : Below w.heap.size w W) (hI : ∀ k, k ∈ I.L → w.heap.size ≤ k) (hl : st.mu.m.path.length ≤ 40) (hd : st.mu.m.dom = 0)
    (hP : ∀ c (ax : Act) (kx : Option Nat) (vx : Value) (wx : World), Q0 (.panic c) (ax.put kx vx) wx → Q0 (.panic c) ax wx)
    (hQ : ∀ (z4 z20 z136 z137 z138 z139 z140 z141 z142 z143 z144 z145 z146 z147 z148 z149 z150 z151 z152 z153 z154 z155 : Value) (W' : World), Done I W W' → Q0 .normal ⟨#[a0, a1, .pointer (some ⟨I.bm, 0, none⟩), a3, z4, .pointer (some ⟨I.p, 0, none⟩), a6, a7, a8, a9, a10, .pointer (some ⟨I.bs, 0, none⟩), .pointer (some ⟨I.bo, 0, none⟩), .pointer (some ⟨I.bl, 0, none⟩), .func (.func 23) #[] #[.pointer (some ⟨I.bo, 0, none⟩), .pointer (some ⟨I.bs, 0, none⟩), .pointer (some ⟨I.bm, 0, none⟩)], .func (.func 27) #[] #[.pointer (some ⟨I.bs, 0, none⟩), .pointer (some ⟨I.bm, 0, none⟩), .pointer (some ⟨I.bl, 0, none⟩)], a16, .pointer (some ⟨g, 0, none⟩), a18, .bool true, z20, a21, a22, a23, a24, a25, a26, a27, a28, a29, a30, a31, a32, a33, a34, a35, a36, a37, a38, a39, a40, a41, a42, a43, a44, a45, a46, a47, a48, a49, a50, a51, a52, a53, a54, a55, a56, a57, a58, a59, a60, a61, a62, a63, a64, a65, a66, a67, a68, a69, a70, a71, a72, a73, a74, a75, a76, a77, a78, a79, a80, a81, a82, a83, a84, a85, a86, a87, a88, a89, a90, a91, a92, a93, a94, a95, a96, a97, a98, a99, a100, a101, a102, a103, a104, a105, a106, a107, a108, a109, a110, a111, a112, a113, a114, a115, a116, a117, a118, a119, a120, a121, a122, a123, a124, a125, a126, a127, a128, a129, a130, a131, a132, a133, a134, a135, z136, z137, z138, z139, z140, z141, z142, z143, z144, z145, z146, z147, z148, z149, z150, z151, z152, z153, z154, z155, a156, a157, a158, a159, a160, a161, a162, a163, a164, a165, a166, a167, a168, a169, a170, a171, a172, a173, a174, a175, a176, a177, a178, a179, a180, a181, a182, a183, a184, a185, a186, a187, a188, a189, a190, a191, a192, a193, a194, a195, a196, a197, a198, a199, a200, a201, a202, a203, a204, a205, a206, a207, a208, a209, a210, a211, a212, a213, a214, a215, a216, a217, a218, a219, a220, a221, a222, a223, a224, a225, a226, a227, a228, a229, a230, a231, a232, a233, a234, a235, a236, a237, a238, a239, a240, a241, a242, a243, a244, a245, a246, a247, a248, a249, a250, a251, a252, a253, a254, a255, a256, a257, a258, a259, a260, a261, a262, a263, a264, a265, a266, a267, a268, a269, a270, a271, a272, a273, a274, a275, a276, a277, a278, a279, a280, a281, a282, a283, a284, a285, a286, a287, a288, a289, a290, a291, a292, a293, a294, a295, a296, a297, a298, a299, a300, a301, a302, a303, a304, a305, a306, a307, a308, a309, a310, a311, a312, a313, a314, a315, a316, a317, a318, a319, a320, a321, a322, a323, a324, a325, a326, a327, a328, a329, a330, a331, a332, a333, a334, a335, a336, a337, a338, a339, a340, a341, a342, a343, a344, a345, a346, a347, a348, a349, a350, a351, a352, a353, a354, a355, a356, a357, a358, a359, a360, a361, a362, a363, a364, a365, a366, a367], []⟩ W') :
    Code.wp Try.prog (partOf 25 0) Q0 ⟨#[a0, a1, .pointer (some ⟨I.bm, 0, none⟩), a3, a4, .pointer (some ⟨I.p, 0, none⟩), a6, a7, a8, a9, a10, .pointer (some ⟨I.bs, 0, none⟩), .pointer (some ⟨I.bo, 0, none⟩), .pointer (some ⟨I.bl, 0, none⟩), .func (.func 23) #[] #[.pointer (some ⟨I.bo, 0, none⟩), .pointer (some ⟨I.bs, 0, none⟩), .pointer (some ⟨I.bm, 0, none⟩)], .func (.func 27) #[] #[.pointer (some ⟨I.bs, 0, none⟩), .pointer (some ⟨I.bm, 0, none⟩), .pointer (some ⟨I.bl, 0, none⟩)], a16, .pointer (some ⟨g, 0, none⟩), a18, .bool true, a20, a21, a22, a23, a24, a25, a26, a27, a28, a29, a30, a31, a32, a33, a34, a35, a36, a37, a38, a39, a40, a41, a42, a43, a44, a45, a46, a47, a48, a49, a50, a51, a52, a53, a54, a55, a56, a57, a58, a59, a60, a61, a62, a63, a64, a65, a66, a67, a68, a69, a70, a71, a72, a73, a74, a75, a76, a77, a78, a79, a80, a81, a82, a83, a84, a85, a86, a87, a88, a89, a90, a91, a92, a93, a94, a95, a96, a97, a98, a99, a100, a101, a102, a103, a104, a105, a106, a107, a108, a109, a110, a111, a112, a113, a114, a115, a116, a117, a118, a119, a120, a121, a122, a123, a124, a125, a126, a127, a128, a129, a130, a131, a132, a133, a134, a135, a136, a137, a138, a139, a140, a141, a142, a143, a144, a145, a146, a147, a148, a149, a150, a151, a152, a153, a154, a155, a156, a157, a158, a159, a160, a161, a162, a163, a164, a165, a166, a167, a168, a169, a170, a171, a172, a173, a174, a175, a176, a177, a178, a179, a180, a181, a182, a183, a184, a185, a186, a187, a188, a189, a190, a191, a192, a193, a194, a195, a196, a197, a198, a199, a200, a201, a202, a203, a204, a205, a206, a207, a208, a209, a210, a211, a212, a213, a214, a215, a216, a217, a218, a219, a220, a221, a222, a223, a224, a225, a226, a227, a228, a229, a230, a231, a232, a233, a234, a235, a236, a237, a238, a239, a240, a241, a242, a243, a244, a245, a246, a247, a248, a249, a250, a251, a252, a253, a254, a255, a256, a257, a258, a259, a260, a261, a262, a263, a264, a265, a266, a267, a268, a269, a270, a271, a272, a273, a274, a275, a276, a277, a278, a279, a280, a281, a282, a283, a284, a285, a286, a287, a288, a289, a290, a291, a292, a293, a294, a295, a296, a297, a298, a299, a300, a301, a302, a303, a304, a305, a306, a307, a308, a309, a310, a311, a312, a313, a314, a315, a316, a317, a318, a319, a320, a321, a322, a323, a324, a325, a326, a327, a328, a329, a330, a331, a332, a333, a334, a335, a336, a337, a338, a339, a340, a341, a342, a343, a344, a345, a346, a347, a348, a349, a350, a351, a352, a353, a354, a355, a356, a357, a358, a359, a360, a361, a362, a363, a364, a365, a366, a367], []⟩ W := by
  replace hQ := Lib.hid hQ
  have HNL := Lib.hid (hg.not hk)
  have HBW := Lib.hid hbw
  have HI := Lib.hid hI
  clear hbw hI
  have HK := Lib.hid hk
  have HG := Lib.hid hg
  have eE : s.inE st.mu.m = s.a.syncE st.mu.m st.mu.m.chk := by unfold PP.inE; rw [if_pos hd]
  have eS : s.inS st.mu.m st.at_ = { s with a := s.a.syncS st.mu.m st.mu.m.chk st.at_ } := by unfold PP.inS; rw [if_pos hd]
  have hok := ok.inS st.mu.m hst.at_
  rw [eS] at hok
  have hlen : st.mu.m.path.length ≤ 140737488355328 := by omega
  obtain ⟨ev, hev⟩ : ∃ ev, s.a.syncE st.mu.m st.mu.m.chk = ev := ⟨_, rfl⟩
  rw [hev] at eE
  have HPS : Hid (∀ W', RunP I W' s { s with a := s.a.syncS st.mu.m st.mu.m.chk st.at_ } → ButS I.L W W' → LArg W' st.mu.u st.mu.m.path → Calls Try.prog 20 #[.pointer (some ⟨I.p, 0, none⟩), .agg (MC st.mu.m st.mu.u), .int .i64 st.at_] W' fun e w' => e = .returned (.int .i64 ev) ∧ LeaveP I.p I.k0 I.k1 W' { s with a := s.a.syncS st.mu.m st.mu.m.chk st.at_ } w') := Lib.hid (fun W' h _ ha => by
    have key := psync_any h.P st.mu.m st.mu.u hst.mu.wf ha hlen st.at_
    rw [eE, eS] at key
    exact key)
  have HCL : Hid (∀ W', Ck W' I.c0 s.a → ChkTo W' st.mu.m st.mu.u st.mu.m.chk → Calls Try.prog 28 #[.pointer (some ⟨I.c0, 0, none⟩), .agg (MC st.mu.m st.mu.u), .int .i64 st.at_] W' fun e w' => e = .returned (.int .i64 ev) ∧ LeaveC I.c0 W' (s.a.syncS st.mu.m st.mu.m.chk st.at_) w') := Lib.hid (fun W' h hC => by
    have key := sync_any h st.mu.m st.mu.u st.at_ hC
    rw [hev] at key
    exact key)
  have HCH := Lib.hid (ChkTo.of hst.mu.wf (hst.mu.arg.below HBW.out) hlen)
  have HSTA := Lib.hid hst.mu.arg
  have HS : Hid ((fun V => Stat I s.most V ∧ StB V g st) W.drew) := Lib.hid ⟨⟨hk.st.M, hk.st.S, hk.st.R⟩, hg⟩
  have HA := Lib.hid (hst.mu.arg.below HBW.out)
  have HD := Lib.hid (hk.drewN 1)
  have dE : (ev != ev) = false := by simp
  clear hk hg hst eE eS hev
  conv => arg 2; whnf
  go_wp2_with fail
  refine wp_region_held_drew (S := fun V => Stat I s.most V ∧ StB V g st) (by kernel_rfl) HS.out (fun h0 => ?_)
  refine hTakeS (i := 0) (k := 137) (v := .slice (some ⟨I.br, 0, none⟩) 2 2) rfl rfl (by kernel_rfl) (by kernel_rfl) (by kernel_rfl) (fun cx ax wx hx => hP cx ax _ _ wx hx) (.inl ⟨by rfl, fun W hW => by obtain ⟨hS, hB⟩ := hW; have q := hS.q; go_simp⟩) h0 ?_
  simp only [List.setIfInBounds_toArray, List.set_cons_zero, List.set_cons_succ]
  refine hTakeS (i := 1) (k := 138) (v := .pointer (some ⟨g, 1, none⟩)) rfl rfl (by kernel_rfl) (by kernel_rfl) (by kernel_rfl) (fun cx ax wx hx => hP cx ax _ _ wx hx) (yieldsIf_val (by rfl) (by intro W; go_simp)) h0 ?_
  simp only [List.setIfInBounds_toArray, List.set_cons_zero, List.set_cons_succ]
  refine hTakeS (i := 2) (k := 139) (v := .pointer (some ⟨g, 2, none⟩)) rfl rfl (by kernel_rfl) (by kernel_rfl) (by kernel_rfl) (fun cx ax wx hx => hP cx ax _ _ wx hx) (yieldsIf_val (by rfl) (by intro W; go_simp)) h0 ?_
  simp only [List.setIfInBounds_toArray, List.set_cons_zero, List.set_cons_succ]
  refine hTakeS (i := 3) (k := 140) (v := .int .i64 0) rfl rfl (by kernel_rfl) (by kernel_rfl) (by kernel_rfl) (fun cx ax wx hx => hP cx ax _ _ wx hx) (.inl ⟨by rfl, fun W hW => by obtain ⟨hS, hB⟩ := hW; have q := hB.dom; rw [hd] at q; go_simp⟩) h0 ?_
  simp only [List.setIfInBounds_toArray, List.set_cons_zero, List.set_cons_succ]
  refine hTakeS (i := 4) (k := 141) (v := .pointer (some ⟨I.br, 0, none⟩)) rfl rfl (by kernel_rfl) (by kernel_rfl) (by kernel_rfl) (fun cx ax wx hx => hP cx ax _ _ wx hx) (yieldsIf_val (by rfl) (by intro W; go_simp)) h0 ?_
  simp only [List.setIfInBounds_toArray, List.set_cons_zero, List.set_cons_succ]
  refine hTakeS (i := 5) (k := 142) (v := .pointer (some ⟨I.c0, 0, none⟩)) rfl rfl (by kernel_rfl) (by kernel_rfl) (by kernel_rfl) (fun cx ax wx hx => hP cx ax _ _ wx hx) (.inl ⟨by rfl, fun W hW => by obtain ⟨hS, hB⟩ := hW; have q := hS.r0; go_simp⟩) h0 ?_
  simp only [List.setIfInBounds_toArray, List.set_cons_zero, List.set_cons_succ]
  refine hTakeS (i := 6) (k := 143) (v := .pointer (some ⟨g, 1, none⟩)) rfl rfl (by kernel_rfl) (by kernel_rfl) (by kernel_rfl) (fun cx ax wx hx => hP cx ax _ _ wx hx) (yieldsIf_val (by rfl) (by intro W; go_simp)) h0 ?_
  simp only [List.setIfInBounds_toArray, List.set_cons_zero, List.set_cons_succ]
  refine hTakeS (i := 8) (k := 145) (v := .pointer (some ⟨g, 17, none⟩)) rfl rfl (by kernel_rfl) (by kernel_rfl) (by kernel_rfl) (fun cx ax wx hx => hP cx ax _ _ wx hx) (yieldsIf_val (by rfl) (by intro W; go_simp)) h0 ?_
  simp only [List.setIfInBounds_toArray, List.set_cons_zero, List.set_cons_succ]
  refine hTakeS (i := 9) (k := 146) (v := .int .i64 st.at_) rfl rfl (by kernel_rfl) (by kernel_rfl) (by kernel_rfl) (fun cx ax wx hx => hP cx ax _ _ wx hx) (.inl ⟨by rfl, fun W hW => by obtain ⟨hS, hB⟩ := hW; have q := hB.at_; go_simp⟩) h0 ?_
  simp only [List.setIfInBounds_toArray, List.set_cons_zero, List.set_cons_succ]
  refine hTakeS (i := 7) (k := 144) (v := .agg (MC st.mu.m st.mu.u)) rfl rfl (by kernel_rfl) (by kernel_rfl) (by kernel_rfl) (fun cx ax wx hx => hP cx ax _ _ wx hx) (.inl ⟨by rfl, fun W hW => loadOp _ _ rfl g 1 (MC st.mu.m st.mu.u) _ hW.2.msg Try.underlying37 rfl (by kernel_rfl) rfl⟩) h0 ?_
  simp only [List.setIfInBounds_toArray, List.set_cons_zero, List.set_cons_succ]
  refine hCallR (i := 10) (k := 147) (by kernel_rfl) rfl rfl (by rfl) 28 #[.pointer (some ⟨I.c0, 0, none⟩), .agg (MC st.mu.m st.mu.u), .int .i64 st.at_] (by go_simp) (HCL.out _ HD.out.C0 (HCH.out.mono (bDr1 (bRef W)))) ?_
  rintro e w1 ⟨rfl, hl1⟩
  have H1 := Lib.hid (HD.out.clk0 hl1)
  have B1 := Lib.hid ((ButS.refl I.L W).drew.trans (b0 hl1))
  have G1 := Lib.hid (HG.out.keep B1.out HNL.out)
  have s1 : (fun V => Stat I s.most V ∧ StB V g st) w1 := ⟨H1.out.st, G1.out⟩
  have A1 := Lib.hid (HSTA.out.below (B1.out.into HBW.out HI.out))
  refine ⟨_, rfl, s1, ?_⟩
  simp only [List.setIfInBounds_toArray, List.set_cons_zero, List.set_cons_succ]
  refine hTakeS (i := 11) (k := 20) (v := .int .i64 ev) rfl rfl (by kernel_rfl) (by kernel_rfl) (by kernel_rfl) (fun cx ax wx hx => hP cx ax _ _ wx hx) (yieldsIf_val (by rfl) (by intro W; go_simp)) s1 ?_
  simp only [List.setIfInBounds_toArray, List.set_cons_zero, List.set_cons_succ]
  refine wpAnyH_done (by kernel_rfl) ?_ _
  have HM := Lib.hid G1.out.msg
  have d17 := G1.out.at_
  have d18 := G1.out.r
  clear s1
  go_wp2_with (first
    | ((with_reducible refine at_loadG' ?_); refine wpList_loadW (by rfl) _ _ rfl g 1 rfl (MC st.mu.m st.mu.u) _ HM.out Try.underlying37 rfl (by kernel_rfl) ?_)
    | (go_at_call 20; (with_reducible refine (HPS.out _ H1.out B1.out A1.out).mono ?_); rintro e w2 ⟨rfl, hl2⟩; have H2 := Lib.hid (H1.out.pair hl2); have B2 := Lib.hid (B1.out.trans (RunP.bP hl2)); clear hl2))
  exact hQ.out _ _ _ _ _ _ _ _ _ _ _ _ _ _ _ _ _ _ _ _ _ _ _ ⟨_, H2.out, hok, B2.out⟩

set_option maxRecDepth 1000000 in
set_option maxHeartbeats 16000000 in
theorem rn_k0_1 {I : Ids} {w W : World} {s : PP} {st : Stp} {g : Nat} {a0 a1 a3 a4 a6 a7 a8 a9 a10 a16 a18 a20 a21 a22 a23 a24 a25 a26 a27 a28 a29 a30 a31 a32 a33 a34 a35 a36 a37 a38 a39 a40 a41 a42 a43 a44 a45 a46 a47 a48 a49 a50 a51 a52 a53 a54 a55 a56 a57 a58 a59 a60 a61 a62 a63 a64 a65 a66 a67 a68 a69 a70 a71 a72 a73 a74 a75 a76 a77 a78 a79 a80 a81 a82 a83 a84 a85 a86 a87 a88 a89 a90 a91 a92 a93 a94 a95 a96 a97 a98 a99 a100 a101 a102 a103 a104 a105 a106 a107 a108 a109 a110 a111 a112 a113 a114 a115 a116 a117 a118 a119 a120 a121 a122 a123 a124 a125 a126 a127 a128 a129 a130 a131 a132 a133 a134 a135 a136 a137 a138 a139 a140 a141 a142 a143 a144 a145 a146 a147 a148 a149 a150 a151 a152 a153 a154 a155 a156 a157 a158 a159 a160 a161 a162 a163 a164 a165 a166 a167 a168 a169 a170 a171 a172 a173 a174 a175 a176 a177 a178 a179 a180 a181 a182 a183 a184 a185 a186 a187 a188 a189 a190 a191 a192 a193 a194 a195 a196 a197 a198 a199 a200 a201 a202 a203 a204 a205 a206 a207 a208 a209 a210 a211 a212 a213 a214 a215 a216 a217 a218 a219 a220 a221 a222 a223 a224 a225 a226 a227 a228 a229 a230 a231 a232 a233 a234 a235 a236 a237 a238 a239 a240 a241 a242 a243 a244 a245 a246 a247 a248 a249 a250 a251 a252 a253 a254 a255 a256 a257 a258 a259 a260 a261 a262 a263 a264 a265 a266 a267 a268 a269 a270 a271 a272 a273 a274 a275 a276 a277 a278 a279 a280 a281 a282 a283 a284 a285 a286 a287 a288 a289 a290 a291 a292 a293 a294 a295 a296 a297 a298 a299 a300 a301 a302 a303 a304 a305 a306 a307 a308 a309 a310 a311 a312 a313 a314 a315 a316 a317 a318 a319 a320 a321 a322 a323 a324 a325 a326 a327 a328 a329 a330 a331 a332 a333 a334 a335 a336 a337 a338 a339 a340 a341 a342 a343 a344 a345 a346 a347 a348 a349 a350 a351 a352 a353 a354 a355 a356 a357 a358 a359 a360 a361 a362 a363 a364 a365 a366 a367 : Value} {Q0 : Exit → Act → World → Prop}
    (hk : RunP I W s s) (ok : s.Ok) (hg : StB W g st) (hst : st.Ok w) (hbw : Below w.heap.size w W) (hI : ∀ k, k ∈ I.L → w.heap.size ≤ k) (hl : st.mu.m.path.length ≤ 40) (hd : st.mu.m.dom = 1)
    (hP : ∀ c (ax : Act) (kx : Option Nat) (vx : Value) (wx : World), Q0 (.panic c) (ax.put kx vx) wx → Q0 (.panic c) ax wx)
    (hQ : ∀ (z4 z20 z136 z137 z138 z139 z140 z141 z142 z143 z144 z145 z146 z147 z148 z149 z150 z151 z152 z153 z154 z155 : Value) (W' : World), Done I W W' → Q0 .normal ⟨#[a0, a1, .pointer (some ⟨I.bm, 0, none⟩), a3, z4, .pointer (some ⟨I.p, 0, none⟩), a6, a7, a8, a9, a10, .pointer (some ⟨I.bs, 0, none⟩), .pointer (some ⟨I.bo, 0, none⟩), .pointer (some ⟨I.bl, 0, none⟩), .func (.func 23) #[] #[.pointer (some ⟨I.bo, 0, none⟩), .pointer (some ⟨I.bs, 0, none⟩), .pointer (some ⟨I.bm, 0, none⟩)], .func (.func 27) #[] #[.pointer (some ⟨I.bs, 0, none⟩), .pointer (some ⟨I.bm, 0, none⟩), .pointer (some ⟨I.bl, 0, none⟩)], a16, .pointer (some ⟨g, 0, none⟩), a18, .bool true, z20, a21, a22, a23, a24, a25, a26, a27, a28, a29, a30, a31, a32, a33, a34, a35, a36, a37, a38, a39, a40, a41, a42, a43, a44, a45, a46, a47, a48, a49, a50, a51, a52, a53, a54, a55, a56, a57, a58, a59, a60, a61, a62, a63, a64, a65, a66, a67, a68, a69, a70, a71, a72, a73, a74, a75, a76, a77, a78, a79, a80, a81, a82, a83, a84, a85, a86, a87, a88, a89, a90, a91, a92, a93, a94, a95, a96, a97, a98, a99, a100, a101, a102, a103, a104, a105, a106, a107, a108, a109, a110, a111, a112, a113, a114, a115, a116, a117, a118, a119, a120, a121, a122, a123, a124, a125, a126, a127, a128, a129, a130, a131, a132, a133, a134, a135, z136, z137, z138, z139, z140, z141, z142, z143, z144, z145, z146, z147, z148, z149, z150, z151, z152, z153, z154, z155, a156, a157, a158, a159, a160, a161, a162, a163, a164, a165, a166, a167, a168, a169, a170, a171, a172, a173, a174, a175, a176, a177, a178, a179, a180, a181, a182, a183, a184, a185, a186, a187, a188, a189, a190, a191, a192, a193, a194, a195, a196, a197, a198, a199, a200, a201, a202, a203, a204, a205, a206, a207, a208, a209, a210, a211, a212, a213, a214, a215, a216, a217, a218, a219, a220, a221, a222, a223, a224, a225, a226, a227, a228, a229, a230, a231, a232, a233, a234, a235, a236, a237, a238, a239, a240, a241, a242, a243, a244, a245, a246, a247, a248, a249, a250, a251, a252, a253, a254, a255, a256, a257, a258, a259, a260, a261, a262, a263, a264, a265, a266, a267, a268, a269, a270, a271, a272, a273, a274, a275, a276, a277, a278, a279, a280, a281, a282, a283, a284, a285, a286, a287, a288, a289, a290, a291, a292, a293, a294, a295, a296, a297, a298, a299, a300, a301, a302, a303, a304, a305, a306, a307, a308, a309, a310, a311, a312, a313, a314, a315, a316, a317, a318, a319, a320, a321, a322, a323, a324, a325, a326, a327, a328, a329, a330, a331, a332, a333, a334, a335, a336, a337, a338, a339, a340, a341, a342, a343, a344, a345, a346, a347, a348, a349, a350, a351, a352, a353, a354, a355, a356, a357, a358, a359, a360, a361, a362, a363, a364, a365, a366, a367], []⟩ W') :
    Code.wp Try.prog (partOf 25 0) Q0 ⟨#[a0, a1, .pointer (some ⟨I.bm, 0, none⟩), a3, a4, .pointer (some ⟨I.p, 0, none⟩), a6, a7, a8, a9, a10, .pointer (some ⟨I.bs, 0, none⟩), .pointer (some ⟨I.bo, 0, none⟩), .pointer (some ⟨I.bl, 0, none⟩), .func (.func 23) #[] #[.pointer (some ⟨I.bo, 0, none⟩), .pointer (some ⟨I.bs, 0, none⟩), .pointer (some ⟨I.bm, 0, none⟩)], .func (.func 27) #[] #[.pointer (some ⟨I.bs, 0, none⟩), .pointer (some ⟨I.bm, 0, none⟩), .pointer (some ⟨I.bl, 0, none⟩)], a16, .pointer (some ⟨g, 0, none⟩), a18, .bool true, a20, a21, a22, a23, a24, a25, a26, a27, a28, a29, a30, a31, a32, a33, a34, a35, a36, a37, a38, a39, a40, a41, a42, a43, a44, a45, a46, a47, a48, a49, a50, a51, a52, a53, a54, a55, a56, a57, a58, a59, a60, a61, a62, a63, a64, a65, a66, a67, a68, a69, a70, a71, a72, a73, a74, a75, a76, a77, a78, a79, a80, a81, a82, a83, a84, a85, a86, a87, a88, a89, a90, a91, a92, a93, a94, a95, a96, a97, a98, a99, a100, a101, a102, a103, a104, a105, a106, a107, a108, a109, a110, a111, a112, a113, a114, a115, a116, a117, a118, a119, a120, a121, a122, a123, a124, a125, a126, a127, a128, a129, a130, a131, a132, a133, a134, a135, a136, a137, a138, a139, a140, a141, a142, a143, a144, a145, a146, a147, a148, a149, a150, a151, a152, a153, a154, a155, a156, a157, a158, a159, a160, a161, a162, a163, a164, a165, a166, a167, a168, a169, a170, a171, a172, a173, a174, a175, a176, a177, a178, a179, a180, a181, a182, a183, a184, a185, a186, a187, a188, a189, a190, a191, a192, a193, a194, a195, a196, a197, a198, a199, a200, a201, a202, a203, a204, a205, a206, a207, a208, a209, a210, a211, a212, a213, a214, a215, a216, a217, a218, a219, a220, a221, a222, a223, a224, a225, a226, a227, a228, a229, a230, a231, a232, a233, a234, a235, a236, a237, a238, a239, a240, a241, a242, a243, a244, a245, a246, a247, a248, a249, a250, a251, a252, a253, a254, a255, a256, a257, a258, a259, a260, a261, a262, a263, a264, a265, a266, a267, a268, a269, a270, a271, a272, a273, a274, a275, a276, a277, a278, a279, a280, a281, a282, a283, a284, a285, a286, a287, a288, a289, a290, a291, a292, a293, a294, a295, a296, a297, a298, a299, a300, a301, a302, a303, a304, a305, a306, a307, a308, a309, a310, a311, a312, a313, a314, a315, a316, a317, a318, a319, a320, a321, a322, a323, a324, a325, a326, a327, a328, a329, a330, a331, a332, a333, a334, a335, a336, a337, a338, a339, a340, a341, a342, a343, a344, a345, a346, a347, a348, a349, a350, a351, a352, a353, a354, a355, a356, a357, a358, a359, a360, a361, a362, a363, a364, a365, a366, a367], []⟩ W := by
  replace hQ := Lib.hid hQ
  have HNL := Lib.hid (hg.not hk)
  have HBW := Lib.hid hbw
  have HI := Lib.hid hI
  clear hbw hI
  have HK := Lib.hid hk
  have HG := Lib.hid hg
  have eE : s.inE st.mu.m = s.b.syncE st.mu.m st.mu.m.chk := by unfold PP.inE; rw [if_neg (show ¬ st.mu.m.dom = 0 by omega), if_pos hd]
  have eS : s.inS st.mu.m st.at_ = { s with b := s.b.syncS st.mu.m st.mu.m.chk st.at_ } := by unfold PP.inS; rw [if_neg (show ¬ st.mu.m.dom = 0 by omega), if_pos hd]
  have hok := ok.inS st.mu.m hst.at_
  rw [eS] at hok
  have hlen : st.mu.m.path.length ≤ 140737488355328 := by omega
  obtain ⟨ev, hev⟩ : ∃ ev, s.b.syncE st.mu.m st.mu.m.chk = ev := ⟨_, rfl⟩
  rw [hev] at eE
  have HPS : Hid (∀ W', RunP I W' s { s with b := s.b.syncS st.mu.m st.mu.m.chk st.at_ } → ButS I.L W W' → LArg W' st.mu.u st.mu.m.path → Calls Try.prog 20 #[.pointer (some ⟨I.p, 0, none⟩), .agg (MC st.mu.m st.mu.u), .int .i64 st.at_] W' fun e w' => e = .returned (.int .i64 ev) ∧ LeaveP I.p I.k0 I.k1 W' { s with b := s.b.syncS st.mu.m st.mu.m.chk st.at_ } w') := Lib.hid (fun W' h _ ha => by
    have key := psync_any h.P st.mu.m st.mu.u hst.mu.wf ha hlen st.at_
    rw [eE, eS] at key
    exact key)
  have HCL : Hid (∀ W', Ck W' I.c1 s.b → ChkTo W' st.mu.m st.mu.u st.mu.m.chk → Calls Try.prog 28 #[.pointer (some ⟨I.c1, 0, none⟩), .agg (MC st.mu.m st.mu.u), .int .i64 st.at_] W' fun e w' => e = .returned (.int .i64 ev) ∧ LeaveC I.c1 W' (s.b.syncS st.mu.m st.mu.m.chk st.at_) w') := Lib.hid (fun W' h hC => by
    have key := sync_any h st.mu.m st.mu.u st.at_ hC
    rw [hev] at key
    exact key)
  have HCH := Lib.hid (ChkTo.of hst.mu.wf (hst.mu.arg.below HBW.out) hlen)
  have HSTA := Lib.hid hst.mu.arg
  have HS : Hid ((fun V => Stat I s.most V ∧ StB V g st) W.drew) := Lib.hid ⟨⟨hk.st.M, hk.st.S, hk.st.R⟩, hg⟩
  have HA := Lib.hid (hst.mu.arg.below HBW.out)
  have HD := Lib.hid (hk.drewN 1)
  have dE : (ev != ev) = false := by simp
  clear hk hg hst eE eS hev
  conv => arg 2; whnf
  go_wp2_with fail
  refine wp_region_held_drew (S := fun V => Stat I s.most V ∧ StB V g st) (by kernel_rfl) HS.out (fun h0 => ?_)
  refine hTakeS (i := 0) (k := 137) (v := .slice (some ⟨I.br, 0, none⟩) 2 2) rfl rfl (by kernel_rfl) (by kernel_rfl) (by kernel_rfl) (fun cx ax wx hx => hP cx ax _ _ wx hx) (.inl ⟨by rfl, fun W hW => by obtain ⟨hS, hB⟩ := hW; have q := hS.q; go_simp⟩) h0 ?_
  simp only [List.setIfInBounds_toArray, List.set_cons_zero, List.set_cons_succ]
  refine hTakeS (i := 1) (k := 138) (v := .pointer (some ⟨g, 1, none⟩)) rfl rfl (by kernel_rfl) (by kernel_rfl) (by kernel_rfl) (fun cx ax wx hx => hP cx ax _ _ wx hx) (yieldsIf_val (by rfl) (by intro W; go_simp)) h0 ?_
  simp only [List.setIfInBounds_toArray, List.set_cons_zero, List.set_cons_succ]
  refine hTakeS (i := 2) (k := 139) (v := .pointer (some ⟨g, 2, none⟩)) rfl rfl (by kernel_rfl) (by kernel_rfl) (by kernel_rfl) (fun cx ax wx hx => hP cx ax _ _ wx hx) (yieldsIf_val (by rfl) (by intro W; go_simp)) h0 ?_
  simp only [List.setIfInBounds_toArray, List.set_cons_zero, List.set_cons_succ]
  refine hTakeS (i := 3) (k := 140) (v := .int .i64 1) rfl rfl (by kernel_rfl) (by kernel_rfl) (by kernel_rfl) (fun cx ax wx hx => hP cx ax _ _ wx hx) (.inl ⟨by rfl, fun W hW => by obtain ⟨hS, hB⟩ := hW; have q := hB.dom; rw [hd] at q; go_simp⟩) h0 ?_
  simp only [List.setIfInBounds_toArray, List.set_cons_zero, List.set_cons_succ]
  refine hTakeS (i := 4) (k := 141) (v := .pointer (some ⟨I.br, 1, none⟩)) rfl rfl (by kernel_rfl) (by kernel_rfl) (by kernel_rfl) (fun cx ax wx hx => hP cx ax _ _ wx hx) (yieldsIf_val (by rfl) (by intro W; go_simp)) h0 ?_
  simp only [List.setIfInBounds_toArray, List.set_cons_zero, List.set_cons_succ]
  refine hTakeS (i := 5) (k := 142) (v := .pointer (some ⟨I.c1, 0, none⟩)) rfl rfl (by kernel_rfl) (by kernel_rfl) (by kernel_rfl) (fun cx ax wx hx => hP cx ax _ _ wx hx) (.inl ⟨by rfl, fun W hW => by obtain ⟨hS, hB⟩ := hW; have q := hS.r1; go_simp⟩) h0 ?_
  simp only [List.setIfInBounds_toArray, List.set_cons_zero, List.set_cons_succ]
  refine hTakeS (i := 6) (k := 143) (v := .pointer (some ⟨g, 1, none⟩)) rfl rfl (by kernel_rfl) (by kernel_rfl) (by kernel_rfl) (fun cx ax wx hx => hP cx ax _ _ wx hx) (yieldsIf_val (by rfl) (by intro W; go_simp)) h0 ?_
  simp only [List.setIfInBounds_toArray, List.set_cons_zero, List.set_cons_succ]
  refine hTakeS (i := 8) (k := 145) (v := .pointer (some ⟨g, 17, none⟩)) rfl rfl (by kernel_rfl) (by kernel_rfl) (by kernel_rfl) (fun cx ax wx hx => hP cx ax _ _ wx hx) (yieldsIf_val (by rfl) (by intro W; go_simp)) h0 ?_
  simp only [List.setIfInBounds_toArray, List.set_cons_zero, List.set_cons_succ]
  refine hTakeS (i := 9) (k := 146) (v := .int .i64 st.at_) rfl rfl (by kernel_rfl) (by kernel_rfl) (by kernel_rfl) (fun cx ax wx hx => hP cx ax _ _ wx hx) (.inl ⟨by rfl, fun W hW => by obtain ⟨hS, hB⟩ := hW; have q := hB.at_; go_simp⟩) h0 ?_
  simp only [List.setIfInBounds_toArray, List.set_cons_zero, List.set_cons_succ]
  refine hTakeS (i := 7) (k := 144) (v := .agg (MC st.mu.m st.mu.u)) rfl rfl (by kernel_rfl) (by kernel_rfl) (by kernel_rfl) (fun cx ax wx hx => hP cx ax _ _ wx hx) (.inl ⟨by rfl, fun W hW => loadOp _ _ rfl g 1 (MC st.mu.m st.mu.u) _ hW.2.msg Try.underlying37 rfl (by kernel_rfl) rfl⟩) h0 ?_
  simp only [List.setIfInBounds_toArray, List.set_cons_zero, List.set_cons_succ]
  refine hCallR (i := 10) (k := 147) (by kernel_rfl) rfl rfl (by rfl) 28 #[.pointer (some ⟨I.c1, 0, none⟩), .agg (MC st.mu.m st.mu.u), .int .i64 st.at_] (by go_simp) (HCL.out _ HD.out.C1 (HCH.out.mono (bDr1 (bRef W)))) ?_
  rintro e w1 ⟨rfl, hl1⟩
  have H1 := Lib.hid (HD.out.clk1 hl1)
  have B1 := Lib.hid ((ButS.refl I.L W).drew.trans (b1 hl1))
  have G1 := Lib.hid (HG.out.keep B1.out HNL.out)
  have s1 : (fun V => Stat I s.most V ∧ StB V g st) w1 := ⟨H1.out.st, G1.out⟩
  have A1 := Lib.hid (HSTA.out.below (B1.out.into HBW.out HI.out))
  refine ⟨_, rfl, s1, ?_⟩
  simp only [List.setIfInBounds_toArray, List.set_cons_zero, List.set_cons_succ]
  refine hTakeS (i := 11) (k := 20) (v := .int .i64 ev) rfl rfl (by kernel_rfl) (by kernel_rfl) (by kernel_rfl) (fun cx ax wx hx => hP cx ax _ _ wx hx) (yieldsIf_val (by rfl) (by intro W; go_simp)) s1 ?_
  simp only [List.setIfInBounds_toArray, List.set_cons_zero, List.set_cons_succ]
  refine wpAnyH_done (by kernel_rfl) ?_ _
  have HM := Lib.hid G1.out.msg
  have d17 := G1.out.at_
  have d18 := G1.out.r
  clear s1
  go_wp2_with (first
    | ((with_reducible refine at_loadG' ?_); refine wpList_loadW (by rfl) _ _ rfl g 1 rfl (MC st.mu.m st.mu.u) _ HM.out Try.underlying37 rfl (by kernel_rfl) ?_)
    | (go_at_call 20; (with_reducible refine (HPS.out _ H1.out B1.out A1.out).mono ?_); rintro e w2 ⟨rfl, hl2⟩; have H2 := Lib.hid (H1.out.pair hl2); have B2 := Lib.hid (B1.out.trans (RunP.bP hl2)); clear hl2))
  exact hQ.out _ _ _ _ _ _ _ _ _ _ _ _ _ _ _ _ _ _ _ _ _ _ _ ⟨_, H2.out, hok, B2.out⟩

set_option maxRecDepth 1000000 in
set_option maxHeartbeats 16000000 in
theorem rn_k0_x {I : Ids} {w W : World} {s : PP} {st : Stp} {g : Nat} {a0 a1 a3 a4 a6 a7 a8 a9 a10 a16 a18 a20 a21 a22 a23 a24 a25 a26 a27 a28 a29 a30 a31 a32 a33 a34 a35 a36 a37 a38 a39 a40 a41 a42 a43 a44 a45 a46 a47 a48 a49 a50 a51 a52 a53 a54 a55 a56 a57 a58 a59 a60 a61 a62 a63 a64 a65 a66 a67 a68 a69 a70 a71 a72 a73 a74 a75 a76 a77 a78 a79 a80 a81 a82 a83 a84 a85 a86 a87 a88 a89 a90 a91 a92 a93 a94 a95 a96 a97 a98 a99 a100 a101 a102 a103 a104 a105 a106 a107 a108 a109 a110 a111 a112 a113 a114 a115 a116 a117 a118 a119 a120 a121 a122 a123 a124 a125 a126 a127 a128 a129 a130 a131 a132 a133 a134 a135 a136 a137 a138 a139 a140 a141 a142 a143 a144 a145 a146 a147 a148 a149 a150 a151 a152 a153 a154 a155 a156 a157 a158 a159 a160 a161 a162 a163 a164 a165 a166 a167 a168 a169 a170 a171 a172 a173 a174 a175 a176 a177 a178 a179 a180 a181 a182 a183 a184 a185 a186 a187 a188 a189 a190 a191 a192 a193 a194 a195 a196 a197 a198 a199 a200 a201 a202 a203 a204 a205 a206 a207 a208 a209 a210 a211 a212 a213 a214 a215 a216 a217 a218 a219 a220 a221 a222 a223 a224 a225 a226 a227 a228 a229 a230 a231 a232 a233 a234 a235 a236 a237 a238 a239 a240 a241 a242 a243 a244 a245 a246 a247 a248 a249 a250 a251 a252 a253 a254 a255 a256 a257 a258 a259 a260 a261 a262 a263 a264 a265 a266 a267 a268 a269 a270 a271 a272 a273 a274 a275 a276 a277 a278 a279 a280 a281 a282 a283 a284 a285 a286 a287 a288 a289 a290 a291 a292 a293 a294 a295 a296 a297 a298 a299 a300 a301 a302 a303 a304 a305 a306 a307 a308 a309 a310 a311 a312 a313 a314 a315 a316 a317 a318 a319 a320 a321 a322 a323 a324 a325 a326 a327 a328 a329 a330 a331 a332 a333 a334 a335 a336 a337 a338 a339 a340 a341 a342 a343 a344 a345 a346 a347 a348 a349 a350 a351 a352 a353 a354 a355 a356 a357 a358 a359 a360 a361 a362 a363 a364 a365 a366 a367 : Value} {Q0 : Exit → Act → World → Prop}
    (hk : RunP I W s s) (ok : s.Ok) (hg : StB W g st) (hst : st.Ok w) (hbw : Below w.heap.size w W) (hI : ∀ k, k ∈ I.L → w.heap.size ≤ k) (hl : st.mu.m.path.length ≤ 40) (hd0 : ¬ st.mu.m.dom = 0) (hd1 : ¬ st.mu.m.dom = 1)
    (hP : ∀ c (ax : Act) (kx : Option Nat) (vx : Value) (wx : World), Q0 (.panic c) (ax.put kx vx) wx → Q0 (.panic c) ax wx)
    (hQ : ∀ (z4 z20 z136 z137 z138 z139 z140 z141 z142 z143 z144 z145 z146 z147 z148 z149 z150 z151 z152 z153 z154 z155 : Value) (W' : World), Done I W W' → Q0 .normal ⟨#[a0, a1, .pointer (some ⟨I.bm, 0, none⟩), a3, z4, .pointer (some ⟨I.p, 0, none⟩), a6, a7, a8, a9, a10, .pointer (some ⟨I.bs, 0, none⟩), .pointer (some ⟨I.bo, 0, none⟩), .pointer (some ⟨I.bl, 0, none⟩), .func (.func 23) #[] #[.pointer (some ⟨I.bo, 0, none⟩), .pointer (some ⟨I.bs, 0, none⟩), .pointer (some ⟨I.bm, 0, none⟩)], .func (.func 27) #[] #[.pointer (some ⟨I.bs, 0, none⟩), .pointer (some ⟨I.bm, 0, none⟩), .pointer (some ⟨I.bl, 0, none⟩)], a16, .pointer (some ⟨g, 0, none⟩), a18, .bool false, z20, a21, a22, a23, a24, a25, a26, a27, a28, a29, a30, a31, a32, a33, a34, a35, a36, a37, a38, a39, a40, a41, a42, a43, a44, a45, a46, a47, a48, a49, a50, a51, a52, a53, a54, a55, a56, a57, a58, a59, a60, a61, a62, a63, a64, a65, a66, a67, a68, a69, a70, a71, a72, a73, a74, a75, a76, a77, a78, a79, a80, a81, a82, a83, a84, a85, a86, a87, a88, a89, a90, a91, a92, a93, a94, a95, a96, a97, a98, a99, a100, a101, a102, a103, a104, a105, a106, a107, a108, a109, a110, a111, a112, a113, a114, a115, a116, a117, a118, a119, a120, a121, a122, a123, a124, a125, a126, a127, a128, a129, a130, a131, a132, a133, a134, a135, z136, z137, z138, z139, z140, z141, z142, z143, z144, z145, z146, z147, z148, z149, z150, z151, z152, z153, z154, z155, a156, a157, a158, a159, a160, a161, a162, a163, a164, a165, a166, a167, a168, a169, a170, a171, a172, a173, a174, a175, a176, a177, a178, a179, a180, a181, a182, a183, a184, a185, a186, a187, a188, a189, a190, a191, a192, a193, a194, a195, a196, a197, a198, a199, a200, a201, a202, a203, a204, a205, a206, a207, a208, a209, a210, a211, a212, a213, a214, a215, a216, a217, a218, a219, a220, a221, a222, a223, a224, a225, a226, a227, a228, a229, a230, a231, a232, a233, a234, a235, a236, a237, a238, a239, a240, a241, a242, a243, a244, a245, a246, a247, a248, a249, a250, a251, a252, a253, a254, a255, a256, a257, a258, a259, a260, a261, a262, a263, a264, a265, a266, a267, a268, a269, a270, a271, a272, a273, a274, a275, a276, a277, a278, a279, a280, a281, a282, a283, a284, a285, a286, a287, a288, a289, a290, a291, a292, a293, a294, a295, a296, a297, a298, a299, a300, a301, a302, a303, a304, a305, a306, a307, a308, a309, a310, a311, a312, a313, a314, a315, a316, a317, a318, a319, a320, a321, a322, a323, a324, a325, a326, a327, a328, a329, a330, a331, a332, a333, a334, a335, a336, a337, a338, a339, a340, a341, a342, a343, a344, a345, a346, a347, a348, a349, a350, a351, a352, a353, a354, a355, a356, a357, a358, a359, a360, a361, a362, a363, a364, a365, a366, a367], []⟩ W') :
    Code.wp Try.prog (partOf 25 0) Q0 ⟨#[a0, a1, .pointer (some ⟨I.bm, 0, none⟩), a3, a4, .pointer (some ⟨I.p, 0, none⟩), a6, a7, a8, a9, a10, .pointer (some ⟨I.bs, 0, none⟩), .pointer (some ⟨I.bo, 0, none⟩), .pointer (some ⟨I.bl, 0, none⟩), .func (.func 23) #[] #[.pointer (some ⟨I.bo, 0, none⟩), .pointer (some ⟨I.bs, 0, none⟩), .pointer (some ⟨I.bm, 0, none⟩)], .func (.func 27) #[] #[.pointer (some ⟨I.bs, 0, none⟩), .pointer (some ⟨I.bm, 0, none⟩), .pointer (some ⟨I.bl, 0, none⟩)], a16, .pointer (some ⟨g, 0, none⟩), a18, .bool false, a20, a21, a22, a23, a24, a25, a26, a27, a28, a29, a30, a31, a32, a33, a34, a35, a36, a37, a38, a39, a40, a41, a42, a43, a44, a45, a46, a47, a48, a49, a50, a51, a52, a53, a54, a55, a56, a57, a58, a59, a60, a61, a62, a63, a64, a65, a66, a67, a68, a69, a70, a71, a72, a73, a74, a75, a76, a77, a78, a79, a80, a81, a82, a83, a84, a85, a86, a87, a88, a89, a90, a91, a92, a93, a94, a95, a96, a97, a98, a99, a100, a101, a102, a103, a104, a105, a106, a107, a108, a109, a110, a111, a112, a113, a114, a115, a116, a117, a118, a119, a120, a121, a122, a123, a124, a125, a126, a127, a128, a129, a130, a131, a132, a133, a134, a135, a136, a137, a138, a139, a140, a141, a142, a143, a144, a145, a146, a147, a148, a149, a150, a151, a152, a153, a154, a155, a156, a157, a158, a159, a160, a161, a162, a163, a164, a165, a166, a167, a168, a169, a170, a171, a172, a173, a174, a175, a176, a177, a178, a179, a180, a181, a182, a183, a184, a185, a186, a187, a188, a189, a190, a191, a192, a193, a194, a195, a196, a197, a198, a199, a200, a201, a202, a203, a204, a205, a206, a207, a208, a209, a210, a211, a212, a213, a214, a215, a216, a217, a218, a219, a220, a221, a222, a223, a224, a225, a226, a227, a228, a229, a230, a231, a232, a233, a234, a235, a236, a237, a238, a239, a240, a241, a242, a243, a244, a245, a246, a247, a248, a249, a250, a251, a252, a253, a254, a255, a256, a257, a258, a259, a260, a261, a262, a263, a264, a265, a266, a267, a268, a269, a270, a271, a272, a273, a274, a275, a276, a277, a278, a279, a280, a281, a282, a283, a284, a285, a286, a287, a288, a289, a290, a291, a292, a293, a294, a295, a296, a297, a298, a299, a300, a301, a302, a303, a304, a305, a306, a307, a308, a309, a310, a311, a312, a313, a314, a315, a316, a317, a318, a319, a320, a321, a322, a323, a324, a325, a326, a327, a328, a329, a330, a331, a332, a333, a334, a335, a336, a337, a338, a339, a340, a341, a342, a343, a344, a345, a346, a347, a348, a349, a350, a351, a352, a353, a354, a355, a356, a357, a358, a359, a360, a361, a362, a363, a364, a365, a366, a367], []⟩ W := by
  replace hQ := Lib.hid hQ
  have HNL := Lib.hid (hg.not hk)
  have HBW := Lib.hid hbw
  have HI := Lib.hid hI
  clear hbw hI
  have HK := Lib.hid hk
  have HG := Lib.hid hg
  have eE : s.inE st.mu.m = 31 := by unfold PP.inE; rw [if_neg hd0, if_neg hd1]
  have eS : s.inS st.mu.m st.at_ = s := by unfold PP.inS; rw [if_neg hd0, if_neg hd1]
  have hlen : st.mu.m.path.length ≤ 140737488355328 := by omega
  have HPS : Hid (∀ W', RunP I W' s s → ButS I.L W W' → LArg W' st.mu.u st.mu.m.path → Calls Try.prog 20 #[.pointer (some ⟨I.p, 0, none⟩), .agg (MC st.mu.m st.mu.u), .int .i64 st.at_] W' fun e w' => e = .returned (.int .i64 31) ∧ LeaveP I.p I.k0 I.k1 W' s w') := Lib.hid (fun W' h _ ha => by
    have key := psync_any h.P st.mu.m st.mu.u hst.mu.wf ha hlen st.at_
    rw [eE, eS] at key
    exact key)
  have HM := Lib.hid hg.msg
  have HA := Lib.hid (hst.mu.arg.below HBW.out)
  have d17 := hg.at_
  have d18 := hg.r
  clear hk hg hst eE eS hd0 hd1
  conv => arg 2; whnf
  go_wp2_with (first
    | ((with_reducible refine at_loadG' ?_); refine wpList_loadW (by rfl) _ _ rfl g 1 rfl (MC st.mu.m st.mu.u) _ HM.out Try.underlying37 rfl (by kernel_rfl) ?_)
    | (go_at_call 20; (with_reducible refine (HPS.out _ HK.out (ButS.refl _ _) HA.out).mono ?_); rintro e w1 ⟨rfl, hl1⟩; have H1 := Lib.hid (HK.out.pair hl1); have B1 := Lib.hid (RunP.bP hl1); clear hl1))
  exact hQ.out _ _ _ _ _ _ _ _ _ _ _ _ _ _ _ _ _ _ _ _ _ _ _ ⟨s, H1.out, ok, B1.out⟩

set_option maxRecDepth 1000000 in
set_option maxHeartbeats 16000000 in
theorem rn_k1_0 {I : Ids} {w W : World} {s : PP} {st : Stp} {g : Nat} {a0 a1 a3 a4 a6 a7 a8 a9 a10 a16 a18 a20 a21 a22 a23 a24 a25 a26 a27 a28 a29 a30 a31 a32 a33 a34 a35 a36 a37 a38 a39 a40 a41 a42 a43 a44 a45 a46 a47 a48 a49 a50 a51 a52 a53 a54 a55 a56 a57 a58 a59 a60 a61 a62 a63 a64 a65 a66 a67 a68 a69 a70 a71 a72 a73 a74 a75 a76 a77 a78 a79 a80 a81 a82 a83 a84 a85 a86 a87 a88 a89 a90 a91 a92 a93 a94 a95 a96 a97 a98 a99 a100 a101 a102 a103 a104 a105 a106 a107 a108 a109 a110 a111 a112 a113 a114 a115 a116 a117 a118 a119 a120 a121 a122 a123 a124 a125 a126 a127 a128 a129 a130 a131 a132 a133 a134 a135 a136 a137 a138 a139 a140 a141 a142 a143 a144 a145 a146 a147 a148 a149 a150 a151 a152 a153 a154 a155 a156 a157 a158 a159 a160 a161 a162 a163 a164 a165 a166 a167 a168 a169 a170 a171 a172 a173 a174 a175 a176 a177 a178 a179 a180 a181 a182 a183 a184 a185 a186 a187 a188 a189 a190 a191 a192 a193 a194 a195 a196 a197 a198 a199 a200 a201 a202 a203 a204 a205 a206 a207 a208 a209 a210 a211 a212 a213 a214 a215 a216 a217 a218 a219 a220 a221 a222 a223 a224 a225 a226 a227 a228 a229 a230 a231 a232 a233 a234 a235 a236 a237 a238 a239 a240 a241 a242 a243 a244 a245 a246 a247 a248 a249 a250 a251 a252 a253 a254 a255 a256 a257 a258 a259 a260 a261 a262 a263 a264 a265 a266 a267 a268 a269 a270 a271 a272 a273 a274 a275 a276 a277 a278 a279 a280 a281 a282 a283 a284 a285 a286 a287 a288 a289 a290 a291 a292 a293 a294 a295 a296 a297 a298 a299 a300 a301 a302 a303 a304 a305 a306 a307 a308 a309 a310 a311 a312 a313 a314 a315 a316 a317 a318 a319 a320 a321 a322 a323 a324 a325 a326 a327 a328 a329 a330 a331 a332 a333 a334 a335 a336 a337 a338 a339 a340 a341 a342 a343 a344 a345 a346 a347 a348 a349 a350 a351 a352 a353 a354 a355 a356 a357 a358 a359 a360 a361 a362 a363 a364 a365 a366 a367 : Value} {Q0 : Exit → Act → World → Prop}
    (hk : RunP I W s s) (ok : s.Ok) (hg : StB W g st) (hst : st.Ok w) (hbw : Below w.heap.size w W) (hI : ∀ k, k ∈ I.L → w.heap.size ≤ k) (hl : st.mu.m.path.length ≤ 40) (hd : st.mu.m.dom = 0)
    (hP : ∀ c (ax : Act) (kx : Option Nat) (vx : Value) (wx : World), Q0 (.panic c) (ax.put kx vx) wx → Q0 (.panic c) ax wx)
    (hQ : ∀ (z4 z21 z158 z159 z160 z161 z162 z163 z164 z165 z166 z167 z168 z169 z170 z171 z172 z173 z174 z175 z176 z177 z178 z179 z180 z181 : Value) (W' : World), Done I W W' → Q0 .normal ⟨#[a0, a1, .pointer (some ⟨I.bm, 0, none⟩), a3, z4, .pointer (some ⟨I.p, 0, none⟩), a6, a7, a8, a9, a10, .pointer (some ⟨I.bs, 0, none⟩), .pointer (some ⟨I.bo, 0, none⟩), .pointer (some ⟨I.bl, 0, none⟩), .func (.func 23) #[] #[.pointer (some ⟨I.bo, 0, none⟩), .pointer (some ⟨I.bs, 0, none⟩), .pointer (some ⟨I.bm, 0, none⟩)], .func (.func 27) #[] #[.pointer (some ⟨I.bs, 0, none⟩), .pointer (some ⟨I.bm, 0, none⟩), .pointer (some ⟨I.bl, 0, none⟩)], a16, .pointer (some ⟨g, 0, none⟩), a18, .bool true, a20, z21, a22, a23, a24, a25, a26, a27, a28, a29, a30, a31, a32, a33, a34, a35, a36, a37, a38, a39, a40, a41, a42, a43, a44, a45, a46, a47, a48, a49, a50, a51, a52, a53, a54, a55, a56, a57, a58, a59, a60, a61, a62, a63, a64, a65, a66, a67, a68, a69, a70, a71, a72, a73, a74, a75, a76, a77, a78, a79, a80, a81, a82, a83, a84, a85, a86, a87, a88, a89, a90, a91, a92, a93, a94, a95, a96, a97, a98, a99, a100, a101, a102, a103, a104, a105, a106, a107, a108, a109, a110, a111, a112, a113, a114, a115, a116, a117, a118, a119, a120, a121, a122, a123, a124, a125, a126, a127, a128, a129, a130, a131, a132, a133, a134, a135, a136, a137, a138, a139, a140, a141, a142, a143, a144, a145, a146, a147, a148, a149, a150, a151, a152, a153, a154, a155, a156, a157, z158, z159, z160, z161, z162, z163, z164, z165, z166, z167, z168, z169, z170, z171, z172, z173, z174, z175, z176, z177, z178, z179, z180, z181, a182, a183, a184, a185, a186, a187, a188, a189, a190, a191, a192, a193, a194, a195, a196, a197, a198, a199, a200, a201, a202, a203, a204, a205, a206, a207, a208, a209, a210, a211, a212, a213, a214, a215, a216, a217, a218, a219, a220, a221, a222, a223, a224, a225, a226, a227, a228, a229, a230, a231, a232, a233, a234, a235, a236, a237, a238, a239, a240, a241, a242, a243, a244, a245, a246, a247, a248, a249, a250, a251, a252, a253, a254, a255, a256, a257, a258, a259, a260, a261, a262, a263, a264, a265, a266, a267, a268, a269, a270, a271, a272, a273, a274, a275, a276, a277, a278, a279, a280, a281, a282, a283, a284, a285, a286, a287, a288, a289, a290, a291, a292, a293, a294, a295, a296, a297, a298, a299, a300, a301, a302, a303, a304, a305, a306, a307, a308, a309, a310, a311, a312, a313, a314, a315, a316, a317, a318, a319, a320, a321, a322, a323, a324, a325, a326, a327, a328, a329, a330, a331, a332, a333, a334, a335, a336, a337, a338, a339, a340, a341, a342, a343, a344, a345, a346, a347, a348, a349, a350, a351, a352, a353, a354, a355, a356, a357, a358, a359, a360, a361, a362, a363, a364, a365, a366, a367], []⟩ W') :
    Code.wp Try.prog (partOf 31 0) Q0 ⟨#[a0, a1, .pointer (some ⟨I.bm, 0, none⟩), a3, a4, .pointer (some ⟨I.p, 0, none⟩), a6, a7, a8, a9, a10, .pointer (some ⟨I.bs, 0, none⟩), .pointer (some ⟨I.bo, 0, none⟩), .pointer (some ⟨I.bl, 0, none⟩), .func (.func 23) #[] #[.pointer (some ⟨I.bo, 0, none⟩), .pointer (some ⟨I.bs, 0, none⟩), .pointer (some ⟨I.bm, 0, none⟩)], .func (.func 27) #[] #[.pointer (some ⟨I.bs, 0, none⟩), .pointer (some ⟨I.bm, 0, none⟩), .pointer (some ⟨I.bl, 0, none⟩)], a16, .pointer (some ⟨g, 0, none⟩), a18, .bool true, a20, a21, a22, a23, a24, a25, a26, a27, a28, a29, a30, a31, a32, a33, a34, a35, a36, a37, a38, a39, a40, a41, a42, a43, a44, a45, a46, a47, a48, a49, a50, a51, a52, a53, a54, a55, a56, a57, a58, a59, a60, a61, a62, a63, a64, a65, a66, a67, a68, a69, a70, a71, a72, a73, a74, a75, a76, a77, a78, a79, a80, a81, a82, a83, a84, a85, a86, a87, a88, a89, a90, a91, a92, a93, a94, a95, a96, a97, a98, a99, a100, a101, a102, a103, a104, a105, a106, a107, a108, a109, a110, a111, a112, a113, a114, a115, a116, a117, a118, a119, a120, a121, a122, a123, a124, a125, a126, a127, a128, a129, a130, a131, a132, a133, a134, a135, a136, a137, a138, a139, a140, a141, a142, a143, a144, a145, a146, a147, a148, a149, a150, a151, a152, a153, a154, a155, a156, a157, a158, a159, a160, a161, a162, a163, a164, a165, a166, a167, a168, a169, a170, a171, a172, a173, a174, a175, a176, a177, a178, a179, a180, a181, a182, a183, a184, a185, a186, a187, a188, a189, a190, a191, a192, a193, a194, a195, a196, a197, a198, a199, a200, a201, a202, a203, a204, a205, a206, a207, a208, a209, a210, a211, a212, a213, a214, a215, a216, a217, a218, a219, a220, a221, a222, a223, a224, a225, a226, a227, a228, a229, a230, a231, a232, a233, a234, a235, a236, a237, a238, a239, a240, a241, a242, a243, a244, a245, a246, a247, a248, a249, a250, a251, a252, a253, a254, a255, a256, a257, a258, a259, a260, a261, a262, a263, a264, a265, a266, a267, a268, a269, a270, a271, a272, a273, a274, a275, a276, a277, a278, a279, a280, a281, a282, a283, a284, a285, a286, a287, a288, a289, a290, a291, a292, a293, a294, a295, a296, a297, a298, a299, a300, a301, a302, a303, a304, a305, a306, a307, a308, a309, a310, a311, a312, a313, a314, a315, a316, a317, a318, a319, a320, a321, a322, a323, a324, a325, a326, a327, a328, a329, a330, a331, a332, a333, a334, a335, a336, a337, a338, a339, a340, a341, a342, a343, a344, a345, a346, a347, a348, a349, a350, a351, a352, a353, a354, a355, a356, a357, a358, a359, a360, a361, a362, a363, a364, a365, a366, a367], []⟩ W := by
  replace hQ := Lib.hid hQ
  have HNL := Lib.hid (hg.not hk)
  have HBW := Lib.hid hbw
  have HI := Lib.hid hI
  clear hbw hI
  have HK := Lib.hid hk
  have HG := Lib.hid hg
  have eE : s.folE st.mu.m st.at_ st.r = s.a.folE st.mu.m st.mu.m.chk st.at_ st.r := by unfold PP.folE; rw [if_pos hd]
  have eS : s.folS st.mu.m st.at_ st.r = { s with a := s.a.folS st.mu.m st.mu.m.chk st.at_ st.r } := by unfold PP.folS; rw [if_pos hd]
  have hok := ok.folS st.mu.m st.at_ st.r
  rw [eS] at hok
  have hlen : st.mu.m.path.length ≤ 140737488355328 := by omega
  obtain ⟨ev, hev⟩ : ∃ ev, s.a.folE st.mu.m st.mu.m.chk st.at_ st.r = ev := ⟨_, rfl⟩
  rw [hev] at eE
  have HPS : Hid (∀ W', RunP I W' s { s with a := s.a.folS st.mu.m st.mu.m.chk st.at_ st.r } → ButS I.L W W' → LArg W' st.mu.u st.mu.m.path → Calls Try.prog 21 #[.pointer (some ⟨I.p, 0, none⟩), .agg (MC st.mu.m st.mu.u), .int .i64 st.at_, .int .i64 st.r] W' fun e w' => e = .returned (.int .i64 ev) ∧ LeaveP I.p I.k0 I.k1 W' { s with a := s.a.folS st.mu.m st.mu.m.chk st.at_ st.r } w') := Lib.hid (fun W' h _ ha => by
    have key := pfollow_any h.P st.mu.m st.mu.u hst.mu.wf ha hlen hst.at_ hst.r
    rw [eE, eS] at key
    exact key)
  have HCL : Hid (∀ W', Ck W' I.c0 s.a → ChkTo W' st.mu.m st.mu.u st.mu.m.chk → Calls Try.prog 29 #[.pointer (some ⟨I.c0, 0, none⟩), .agg (MC st.mu.m st.mu.u), .int .i64 st.at_, .int .i64 st.r] W' fun e w' => e = .returned (.int .i64 ev) ∧ LeaveC I.c0 W' (s.a.folS st.mu.m st.mu.m.chk st.at_ st.r) w') := Lib.hid (fun W' h hC => by
    have key := follow_any h st.mu.m st.mu.u hst.mu.wf hst.at_ hst.r hC
    rw [hev] at key
    exact key)
  have HCH := Lib.hid (ChkTo.of hst.mu.wf (hst.mu.arg.below HBW.out) hlen)
  have HSTA := Lib.hid hst.mu.arg
  have HS : Hid ((fun V => Stat I s.most V ∧ StB V g st) W.drew) := Lib.hid ⟨⟨hk.st.M, hk.st.S, hk.st.R⟩, hg⟩
  have HA := Lib.hid (hst.mu.arg.below HBW.out)
  have HD := Lib.hid (hk.drewN 1)
  have dE : (ev != ev) = false := by simp
  clear hk hg hst eE eS hev
  conv => arg 2; whnf
  go_wp2_with fail
  refine wp_region_held_drew (S := fun V => Stat I s.most V ∧ StB V g st) (by kernel_rfl) HS.out (fun h0 => ?_)
  refine hTakeS (i := 0) (k := 159) (v := .slice (some ⟨I.br, 0, none⟩) 2 2) rfl rfl (by kernel_rfl) (by kernel_rfl) (by kernel_rfl) (fun cx ax wx hx => hP cx ax _ _ wx hx) (.inl ⟨by rfl, fun W hW => by obtain ⟨hS, hB⟩ := hW; have q := hS.q; go_simp⟩) h0 ?_
  simp only [List.setIfInBounds_toArray, List.set_cons_zero, List.set_cons_succ]
  refine hTakeS (i := 1) (k := 160) (v := .pointer (some ⟨g, 1, none⟩)) rfl rfl (by kernel_rfl) (by kernel_rfl) (by kernel_rfl) (fun cx ax wx hx => hP cx ax _ _ wx hx) (yieldsIf_val (by rfl) (by intro W; go_simp)) h0 ?_
  simp only [List.setIfInBounds_toArray, List.set_cons_zero, List.set_cons_succ]
  refine hTakeS (i := 2) (k := 161) (v := .pointer (some ⟨g, 2, none⟩)) rfl rfl (by kernel_rfl) (by kernel_rfl) (by kernel_rfl) (fun cx ax wx hx => hP cx ax _ _ wx hx) (yieldsIf_val (by rfl) (by intro W; go_simp)) h0 ?_
  simp only [List.setIfInBounds_toArray, List.set_cons_zero, List.set_cons_succ]
  refine hTakeS (i := 3) (k := 162) (v := .int .i64 0) rfl rfl (by kernel_rfl) (by kernel_rfl) (by kernel_rfl) (fun cx ax wx hx => hP cx ax _ _ wx hx) (.inl ⟨by rfl, fun W hW => by obtain ⟨hS, hB⟩ := hW; have q := hB.dom; rw [hd] at q; go_simp⟩) h0 ?_
  simp only [List.setIfInBounds_toArray, List.set_cons_zero, List.set_cons_succ]
  refine hTakeS (i := 4) (k := 163) (v := .pointer (some ⟨I.br, 0, none⟩)) rfl rfl (by kernel_rfl) (by kernel_rfl) (by kernel_rfl) (fun cx ax wx hx => hP cx ax _ _ wx hx) (yieldsIf_val (by rfl) (by intro W; go_simp)) h0 ?_
  simp only [List.setIfInBounds_toArray, List.set_cons_zero, List.set_cons_succ]
  refine hTakeS (i := 5) (k := 164) (v := .pointer (some ⟨I.c0, 0, none⟩)) rfl rfl (by kernel_rfl) (by kernel_rfl) (by kernel_rfl) (fun cx ax wx hx => hP cx ax _ _ wx hx) (.inl ⟨by rfl, fun W hW => by obtain ⟨hS, hB⟩ := hW; have q := hS.r0; go_simp⟩) h0 ?_
  simp only [List.setIfInBounds_toArray, List.set_cons_zero, List.set_cons_succ]
  refine hTakeS (i := 6) (k := 165) (v := .pointer (some ⟨g, 1, none⟩)) rfl rfl (by kernel_rfl) (by kernel_rfl) (by kernel_rfl) (fun cx ax wx hx => hP cx ax _ _ wx hx) (yieldsIf_val (by rfl) (by intro W; go_simp)) h0 ?_
  simp only [List.setIfInBounds_toArray, List.set_cons_zero, List.set_cons_succ]
  refine hTakeS (i := 8) (k := 167) (v := .pointer (some ⟨g, 17, none⟩)) rfl rfl (by kernel_rfl) (by kernel_rfl) (by kernel_rfl) (fun cx ax wx hx => hP cx ax _ _ wx hx) (yieldsIf_val (by rfl) (by intro W; go_simp)) h0 ?_
  simp only [List.setIfInBounds_toArray, List.set_cons_zero, List.set_cons_succ]
  refine hTakeS (i := 9) (k := 168) (v := .int .i64 st.at_) rfl rfl (by kernel_rfl) (by kernel_rfl) (by kernel_rfl) (fun cx ax wx hx => hP cx ax _ _ wx hx) (.inl ⟨by rfl, fun W hW => by obtain ⟨hS, hB⟩ := hW; have q := hB.at_; go_simp⟩) h0 ?_
  simp only [List.setIfInBounds_toArray, List.set_cons_zero, List.set_cons_succ]
  refine hTakeS (i := 10) (k := 169) (v := .pointer (some ⟨g, 18, none⟩)) rfl rfl (by kernel_rfl) (by kernel_rfl) (by kernel_rfl) (fun cx ax wx hx => hP cx ax _ _ wx hx) (yieldsIf_val (by rfl) (by intro W; go_simp)) h0 ?_
  simp only [List.setIfInBounds_toArray, List.set_cons_zero, List.set_cons_succ]
  refine hTakeS (i := 11) (k := 170) (v := .int .i64 st.r) rfl rfl (by kernel_rfl) (by kernel_rfl) (by kernel_rfl) (fun cx ax wx hx => hP cx ax _ _ wx hx) (.inl ⟨by rfl, fun W hW => by obtain ⟨hS, hB⟩ := hW; have q := hB.r; go_simp⟩) h0 ?_
  simp only [List.setIfInBounds_toArray, List.set_cons_zero, List.set_cons_succ]
  refine hTakeS (i := 7) (k := 166) (v := .agg (MC st.mu.m st.mu.u)) rfl rfl (by kernel_rfl) (by kernel_rfl) (by kernel_rfl) (fun cx ax wx hx => hP cx ax _ _ wx hx) (.inl ⟨by rfl, fun W hW => loadOp _ _ rfl g 1 (MC st.mu.m st.mu.u) _ hW.2.msg Try.underlying37 rfl (by kernel_rfl) rfl⟩) h0 ?_
  simp only [List.setIfInBounds_toArray, List.set_cons_zero, List.set_cons_succ]
  refine hCallR (i := 12) (k := 171) (by kernel_rfl) rfl rfl (by rfl) 29 #[.pointer (some ⟨I.c0, 0, none⟩), .agg (MC st.mu.m st.mu.u), .int .i64 st.at_, .int .i64 st.r] (by go_simp) (HCL.out _ HD.out.C0 (HCH.out.mono (bDr1 (bRef W)))) ?_
  rintro e w1 ⟨rfl, hl1⟩
  have H1 := Lib.hid (HD.out.clk0 hl1)
  have B1 := Lib.hid ((ButS.refl I.L W).drew.trans (b0 hl1))
  have G1 := Lib.hid (HG.out.keep B1.out HNL.out)
  have s1 : (fun V => Stat I s.most V ∧ StB V g st) w1 := ⟨H1.out.st, G1.out⟩
  have A1 := Lib.hid (HSTA.out.below (B1.out.into HBW.out HI.out))
  refine ⟨_, rfl, s1, ?_⟩
  simp only [List.setIfInBounds_toArray, List.set_cons_zero, List.set_cons_succ]
  refine hTakeS (i := 13) (k := 21) (v := .int .i64 ev) rfl rfl (by kernel_rfl) (by kernel_rfl) (by kernel_rfl) (fun cx ax wx hx => hP cx ax _ _ wx hx) (yieldsIf_val (by rfl) (by intro W; go_simp)) s1 ?_
  simp only [List.setIfInBounds_toArray, List.set_cons_zero, List.set_cons_succ]
  refine wpAnyH_done (by kernel_rfl) ?_ _
  have HM := Lib.hid G1.out.msg
  have d17 := G1.out.at_
  have d18 := G1.out.r
  clear s1
  go_wp2_with (first
    | ((with_reducible refine at_loadG' ?_); refine wpList_loadW (by rfl) _ _ rfl g 1 rfl (MC st.mu.m st.mu.u) _ HM.out Try.underlying37 rfl (by kernel_rfl) ?_)
    | (go_at_call 21; (with_reducible refine (HPS.out _ H1.out B1.out A1.out).mono ?_); rintro e w2 ⟨rfl, hl2⟩; have H2 := Lib.hid (H1.out.pair hl2); have B2 := Lib.hid (B1.out.trans (RunP.bP hl2)); clear hl2))
  exact hQ.out _ _ _ _ _ _ _ _ _ _ _ _ _ _ _ _ _ _ _ _ _ _ _ _ _ _ _ ⟨_, H2.out, hok, B2.out⟩

set_option maxRecDepth 1000000 in
set_option maxHeartbeats 16000000 in
theorem rn_k1_1 {I : Ids} {w W : World} {s : PP} {st : Stp} {g : Nat} {a0 a1 a3 a4 a6 a7 a8 a9 a10 a16 a18 a20 a21 a22 a23 a24 a25 a26 a27 a28 a29 a30 a31 a32 a33 a34 a35 a36 a37 a38 a39 a40 a41 a42 a43 a44 a45 a46 a47 a48 a49 a50 a51 a52 a53 a54 a55 a56 a57 a58 a59 a60 a61 a62 a63 a64 a65 a66 a67 a68 a69 a70 a71 a72 a73 a74 a75 a76 a77 a78 a79 a80 a81 a82 a83 a84 a85 a86 a87 a88 a89 a90 a91 a92 a93 a94 a95 a96 a97 a98 a99 a100 a101 a102 a103 a104 a105 a106 a107 a108 a109 a110 a111 a112 a113 a114 a115 a116 a117 a118 a119 a120 a121 a122 a123 a124 a125 a126 a127 a128 a129 a130 a131 a132 a133 a134 a135 a136 a137 a138 a139 a140 a141 a142 a143 a144 a145 a146 a147 a148 a149 a150 a151 a152 a153 a154 a155 a156 a157 a158 a159 a160 a161 a162 a163 a164 a165 a166 a167 a168 a169 a170 a171 a172 a173 a174 a175 a176 a177 a178 a179 a180 a181 a182 a183 a184 a185 a186 a187 a188 a189 a190 a191 a192 a193 a194 a195 a196 a197 a198 a199 a200 a201 a202 a203 a204 a205 a206 a207 a208 a209 a210 a211 a212 a213 a214 a215 a216 a217 a218 a219 a220 a221 a222 a223 a224 a225 a226 a227 a228 a229 a230 a231 a232 a233 a234 a235 a236 a237 a238 a239 a240 a241 a242 a243 a244 a245 a246 a247 a248 a249 a250 a251 a252 a253 a254 a255 a256 a257 a258 a259 a260 a261 a262 a263 a264 a265 a266 a267 a268 a269 a270 a271 a272 a273 a274 a275 a276 a277 a278 a279 a280 a281 a282 a283 a284 a285 a286 a287 a288 a289 a290 a291 a292 a293 a294 a295 a296 a297 a298 a299 a300 a301 a302 a303 a304 a305 a306 a307 a308 a309 a310 a311 a312 a313 a314 a315 a316 a317 a318 a319 a320 a321 a322 a323 a324 a325 a326 a327 a328 a329 a330 a331 a332 a333 a334 a335 a336 a337 a338 a339 a340 a341 a342 a343 a344 a345 a346 a347 a348 a349 a350 a351 a352 a353 a354 a355 a356 a357 a358 a359 a360 a361 a362 a363 a364 a365 a366 a367 : Value} {Q0 : Exit → Act → World → Prop}
    (hk : RunP I W s s) (ok : s.Ok) (hg : StB W g st) (hst : st.Ok w) (hbw : Below w.heap.size w W) (hI : ∀ k, k ∈ I.L → w.heap.size ≤ k) (hl : st.mu.m.path.length ≤ 40) (hd : st.mu.m.dom = 1)
    (hP : ∀ c (ax : Act) (kx : Option Nat) (vx : Value) (wx : World), Q0 (.panic c) (ax.put kx vx) wx → Q0 (.panic c) ax wx)
    (hQ : ∀ (z4 z21 z158 z159 z160 z161 z162 z163 z164 z165 z166 z167 z168 z169 z170 z171 z172 z173 z174 z175 z176 z177 z178 z179 z180 z181 : Value) (W' : World), Done I W W' → Q0 .normal ⟨#[a0, a1, .pointer (some ⟨I.bm, 0, none⟩), a3, z4, .pointer (some ⟨I.p, 0, none⟩), a6, a7, a8, a9, a10, .pointer (some ⟨I.bs, 0, none⟩), .pointer (some ⟨I.bo, 0, none⟩), .pointer (some ⟨I.bl, 0, none⟩), .func (.func 23) #[] #[.pointer (some ⟨I.bo, 0, none⟩), .pointer (some ⟨I.bs, 0, none⟩), .pointer (some ⟨I.bm, 0, none⟩)], .func (.func 27) #[] #[.pointer (some ⟨I.bs, 0, none⟩), .pointer (some ⟨I.bm, 0, none⟩), .pointer (some ⟨I.bl, 0, none⟩)], a16, .pointer (some ⟨g, 0, none⟩), a18, .bool true, a20, z21, a22, a23, a24, a25, a26, a27, a28, a29, a30, a31, a32, a33, a34, a35, a36, a37, a38, a39, a40, a41, a42, a43, a44, a45, a46, a47, a48, a49, a50, a51, a52, a53, a54, a55, a56, a57, a58, a59, a60, a61, a62, a63, a64, a65, a66, a67, a68, a69, a70, a71, a72, a73, a74, a75, a76, a77, a78, a79, a80, a81, a82, a83, a84, a85, a86, a87, a88, a89, a90, a91, a92, a93, a94, a95, a96, a97, a98, a99, a100, a101, a102, a103, a104, a105, a106, a107, a108, a109, a110, a111, a112, a113, a114, a115, a116, a117, a118, a119, a120, a121, a122, a123, a124, a125, a126, a127, a128, a129, a130, a131, a132, a133, a134, a135, a136, a137, a138, a139, a140, a141, a142, a143, a144, a145, a146, a147, a148, a149, a150, a151, a152, a153, a154, a155, a156, a157, z158, z159, z160, z161, z162, z163, z164, z165, z166, z167, z168, z169, z170, z171, z172, z173, z174, z175, z176, z177, z178, z179, z180, z181, a182, a183, a184, a185, a186, a187, a188, a189, a190, a191, a192, a193, a194, a195, a196, a197, a198, a199, a200, a201, a202, a203, a204, a205, a206, a207, a208, a209, a210, a211, a212, a213, a214, a215, a216, a217, a218, a219, a220, a221, a222, a223, a224, a225, a226, a227, a228, a229, a230, a231, a232, a233, a234, a235, a236, a237, a238, a239, a240, a241, a242, a243, a244, a245, a246, a247, a248, a249, a250, a251, a252, a253, a254, a255, a256, a257, a258, a259, a260, a261, a262, a263, a264, a265, a266, a267, a268, a269, a270, a271, a272, a273, a274, a275, a276, a277, a278, a279, a280, a281, a282, a283, a284, a285, a286, a287, a288, a289, a290, a291, a292, a293, a294, a295, a296, a297, a298, a299, a300, a301, a302, a303, a304, a305, a306, a307, a308, a309, a310, a311, a312, a313, a314, a315, a316, a317, a318, a319, a320, a321, a322, a323, a324, a325, a326, a327, a328, a329, a330, a331, a332, a333, a334, a335, a336, a337, a338, a339, a340, a341, a342, a343, a344, a345, a346, a347, a348, a349, a350, a351, a352, a353, a354, a355, a356, a357, a358, a359, a360, a361, a362, a363, a364, a365, a366, a367], []⟩ W') :
    Code.wp Try.prog (partOf 31 0) Q0 ⟨#[a0, a1, .pointer (some ⟨I.bm, 0, none⟩), a3, a4, .pointer (some ⟨I.p, 0, none⟩), a6, a7, a8, a9, a10, .pointer (some ⟨I.bs, 0, none⟩), .pointer (some ⟨I.bo, 0, none⟩), .pointer (some ⟨I.bl, 0, none⟩), .func (.func 23) #[] #[.pointer (some ⟨I.bo, 0, none⟩), .pointer (some ⟨I.bs, 0, none⟩), .pointer (some ⟨I.bm, 0, none⟩)], .func (.func 27) #[] #[.pointer (some ⟨I.bs, 0, none⟩), .pointer (some ⟨I.bm, 0, none⟩), .pointer (some ⟨I.bl, 0, none⟩)], a16, .pointer (some ⟨g, 0, none⟩), a18, .bool true, a20, a21, a22, a23, a24, a25, a26, a27, a28, a29, a30, a31, a32, a33, a34, a35, a36, a37, a38, a39, a40, a41, a42, a43, a44, a45, a46, a47, a48, a49, a50, a51, a52, a53, a54, a55, a56, a57, a58, a59, a60, a61, a62, a63, a64, a65, a66, a67, a68, a69, a70, a71, a72, a73, a74, a75, a76, a77, a78, a79, a80, a81, a82, a83, a84, a85, a86, a87, a88, a89, a90, a91, a92, a93, a94, a95, a96, a97, a98, a99, a100, a101, a102, a103, a104, a105, a106, a107, a108, a109, a110, a111, a112, a113, a114, a115, a116, a117, a118, a119, a120, a121, a122, a123, a124, a125, a126, a127, a128, a129, a130, a131, a132, a133, a134, a135, a136, a137, a138, a139, a140, a141, a142, a143, a144, a145, a146, a147, a148, a149, a150, a151, a152, a153, a154, a155, a156, a157, a158, a159, a160, a161, a162, a163, a164, a165, a166, a167, a168, a169, a170, a171, a172, a173, a174, a175, a176, a177, a178, a179, a180, a181, a182, a183, a184, a185, a186, a187, a188, a189, a190, a191, a192, a193, a194, a195, a196, a197, a198, a199, a200, a201, a202, a203, a204, a205, a206, a207, a208, a209, a210, a211, a212, a213, a214, a215, a216, a217, a218, a219, a220, a221, a222, a223, a224, a225, a226, a227, a228, a229, a230, a231, a232, a233, a234, a235, a236, a237, a238, a239, a240, a241, a242, a243, a244, a245, a246, a247, a248, a249, a250, a251, a252, a253, a254, a255, a256, a257, a258, a259, a260, a261, a262, a263, a264, a265, a266, a267, a268, a269, a270, a271, a272, a273, a274, a275, a276, a277, a278, a279, a280, a281, a282, a283, a284, a285, a286, a287, a288, a289, a290, a291, a292, a293, a294, a295, a296, a297, a298, a299, a300, a301, a302, a303, a304, a305, a306, a307, a308, a309, a310, a311, a312, a313, a314, a315, a316, a317, a318, a319, a320, a321, a322, a323, a324, a325, a326, a327, a328, a329, a330, a331, a332, a333, a334, a335, a336, a337, a338, a339, a340, a341, a342, a343, a344, a345, a346, a347, a348, a349, a350, a351, a352, a353, a354, a355, a356, a357, a358, a359, a360, a361, a362, a363, a364, a365, a366, a367], []⟩ W := by
  replace hQ := Lib.hid hQ
  have HNL := Lib.hid (hg.not hk)
  have HBW := Lib.hid hbw
  have HI := Lib.hid hI
  clear hbw hI
  have HK := Lib.hid hk
  have HG := Lib.hid hg
  have eE : s.folE st.mu.m st.at_ st.r = s.b.folE st.mu.m st.mu.m.chk st.at_ st.r := by unfold PP.folE; rw [if_neg (show ¬ st.mu.m.dom = 0 by omega), if_pos hd]
  have eS : s.folS st.mu.m st.at_ st.r = { s with b := s.b.folS st.mu.m st.mu.m.chk st.at_ st.r } := by unfold PP.folS; rw [if_neg (show ¬ st.mu.m.dom = 0 by omega), if_pos hd]
  have hok := ok.folS st.mu.m st.at_ st.r
  rw [eS] at hok
  have hlen : st.mu.m.path.length ≤ 140737488355328 := by omega
  obtain ⟨ev, hev⟩ : ∃ ev, s.b.folE st.mu.m st.mu.m.chk st.at_ st.r = ev := ⟨_, rfl⟩
  rw [hev] at eE
  have HPS : Hid (∀ W', RunP I W' s { s with b := s.b.folS st.mu.m st.mu.m.chk st.at_ st.r } → ButS I.L W W' → LArg W' st.mu.u st.mu.m.path → Calls Try.prog 21 #[.pointer (some ⟨I.p, 0, none⟩), .agg (MC st.mu.m st.mu.u), .int .i64 st.at_, .int .i64 st.r] W' fun e w' => e = .returned (.int .i64 ev) ∧ LeaveP I.p I.k0 I.k1 W' { s with b := s.b.folS st.mu.m st.mu.m.chk st.at_ st.r } w') := Lib.hid (fun W' h _ ha => by
    have key := pfollow_any h.P st.mu.m st.mu.u hst.mu.wf ha hlen hst.at_ hst.r
    rw [eE, eS] at key
    exact key)
  have HCL : Hid (∀ W', Ck W' I.c1 s.b → ChkTo W' st.mu.m st.mu.u st.mu.m.chk → Calls Try.prog 29 #[.pointer (some ⟨I.c1, 0, none⟩), .agg (MC st.mu.m st.mu.u), .int .i64 st.at_, .int .i64 st.r] W' fun e w' => e = .returned (.int .i64 ev) ∧ LeaveC I.c1 W' (s.b.folS st.mu.m st.mu.m.chk st.at_ st.r) w') := Lib.hid (fun W' h hC => by
    have key := follow_any h st.mu.m st.mu.u hst.mu.wf hst.at_ hst.r hC
    rw [hev] at key
    exact key)
  have HCH := Lib.hid (ChkTo.of hst.mu.wf (hst.mu.arg.below HBW.out) hlen)
  have HSTA := Lib.hid hst.mu.arg
  have HS : Hid ((fun V => Stat I s.most V ∧ StB V g st) W.drew) := Lib.hid ⟨⟨hk.st.M, hk.st.S, hk.st.R⟩, hg⟩
  have HA := Lib.hid (hst.mu.arg.below HBW.out)
  have HD := Lib.hid (hk.drewN 1)
  have dE : (ev != ev) = false := by simp
  clear hk hg hst eE eS hev
  conv => arg 2; whnf
  go_wp2_with fail
  refine wp_region_held_drew (S := fun V => Stat I s.most V ∧ StB V g st) (by kernel_rfl) HS.out (fun h0 => ?_)
  refine hTakeS (i := 0) (k := 159) (v := .slice (some ⟨I.br, 0, none⟩) 2 2) rfl rfl (by kernel_rfl) (by kernel_rfl) (by kernel_rfl) (fun cx ax wx hx => hP cx ax _ _ wx hx) (.inl ⟨by rfl, fun W hW => by obtain ⟨hS, hB⟩ := hW; have q := hS.q; go_simp⟩) h0 ?_
  simp only [List.setIfInBounds_toArray, List.set_cons_zero, List.set_cons_succ]
  refine hTakeS (i := 1) (k := 160) (v := .pointer (some ⟨g, 1, none⟩)) rfl rfl (by kernel_rfl) (by kernel_rfl) (by kernel_rfl) (fun cx ax wx hx => hP cx ax _ _ wx hx) (yieldsIf_val (by rfl) (by intro W; go_simp)) h0 ?_
  simp only [List.setIfInBounds_toArray, List.set_cons_zero, List.set_cons_succ]
  refine hTakeS (i := 2) (k := 161) (v := .pointer (some ⟨g, 2, none⟩)) rfl rfl (by kernel_rfl) (by kernel_rfl) (by kernel_rfl) (fun cx ax wx hx => hP cx ax _ _ wx hx) (yieldsIf_val (by rfl) (by intro W; go_simp)) h0 ?_
  simp only [List.setIfInBounds_toArray, List.set_cons_zero, List.set_cons_succ]
  refine hTakeS (i := 3) (k := 162) (v := .int .i64 1) rfl rfl (by kernel_rfl) (by kernel_rfl) (by kernel_rfl) (fun cx ax wx hx => hP cx ax _ _ wx hx) (.inl ⟨by rfl, fun W hW => by obtain ⟨hS, hB⟩ := hW; have q := hB.dom; rw [hd] at q; go_simp⟩) h0 ?_
  simp only [List.setIfInBounds_toArray, List.set_cons_zero, List.set_cons_succ]
  refine hTakeS (i := 4) (k := 163) (v := .pointer (some ⟨I.br, 1, none⟩)) rfl rfl (by kernel_rfl) (by kernel_rfl) (by kernel_rfl) (fun cx ax wx hx => hP cx ax _ _ wx hx) (yieldsIf_val (by rfl) (by intro W; go_simp)) h0 ?_
  simp only [List.setIfInBounds_toArray, List.set_cons_zero, List.set_cons_succ]
  refine hTakeS (i := 5) (k := 164) (v := .pointer (some ⟨I.c1, 0, none⟩)) rfl rfl (by kernel_rfl) (by kernel_rfl) (by kernel_rfl) (fun cx ax wx hx => hP cx ax _ _ wx hx) (.inl ⟨by rfl, fun W hW => by obtain ⟨hS, hB⟩ := hW; have q := hS.r1; go_simp⟩) h0 ?_
  simp only [List.setIfInBounds_toArray, List.set_cons_zero, List.set_cons_succ]
  refine hTakeS (i := 6) (k := 165) (v := .pointer (some ⟨g, 1, none⟩)) rfl rfl (by kernel_rfl) (by kernel_rfl) (by kernel_rfl) (fun cx ax wx hx => hP cx ax _ _ wx hx) (yieldsIf_val (by rfl) (by intro W; go_simp)) h0 ?_
  simp only [List.setIfInBounds_toArray, List.set_cons_zero, List.set_cons_succ]
  refine hTakeS (i := 8) (k := 167) (v := .pointer (some ⟨g, 17, none⟩)) rfl rfl (by kernel_rfl) (by kernel_rfl) (by kernel_rfl) (fun cx ax wx hx => hP cx ax _ _ wx hx) (yieldsIf_val (by rfl) (by intro W; go_simp)) h0 ?_
  simp only [List.setIfInBounds_toArray, List.set_cons_zero, List.set_cons_succ]
  refine hTakeS (i := 9) (k := 168) (v := .int .i64 st.at_) rfl rfl (by kernel_rfl) (by kernel_rfl) (by kernel_rfl) (fun cx ax wx hx => hP cx ax _ _ wx hx) (.inl ⟨by rfl, fun W hW => by obtain ⟨hS, hB⟩ := hW; have q := hB.at_; go_simp⟩) h0 ?_
  simp only [List.setIfInBounds_toArray, List.set_cons_zero, List.set_cons_succ]
  refine hTakeS (i := 10) (k := 169) (v := .pointer (some ⟨g, 18, none⟩)) rfl rfl (by kernel_rfl) (by kernel_rfl) (by kernel_rfl) (fun cx ax wx hx => hP cx ax _ _ wx hx) (yieldsIf_val (by rfl) (by intro W; go_simp)) h0 ?_
  simp only [List.setIfInBounds_toArray, List.set_cons_zero, List.set_cons_succ]
  refine hTakeS (i := 11) (k := 170) (v := .int .i64 st.r) rfl rfl (by kernel_rfl) (by kernel_rfl) (by kernel_rfl) (fun cx ax wx hx => hP cx ax _ _ wx hx) (.inl ⟨by rfl, fun W hW => by obtain ⟨hS, hB⟩ := hW; have q := hB.r; go_simp⟩) h0 ?_
  simp only [List.setIfInBounds_toArray, List.set_cons_zero, List.set_cons_succ]
  refine hTakeS (i := 7) (k := 166) (v := .agg (MC st.mu.m st.mu.u)) rfl rfl (by kernel_rfl) (by kernel_rfl) (by kernel_rfl) (fun cx ax wx hx => hP cx ax _ _ wx hx) (.inl ⟨by rfl, fun W hW => loadOp _ _ rfl g 1 (MC st.mu.m st.mu.u) _ hW.2.msg Try.underlying37 rfl (by kernel_rfl) rfl⟩) h0 ?_
  simp only [List.setIfInBounds_toArray, List.set_cons_zero, List.set_cons_succ]
  refine hCallR (i := 12) (k := 171) (by kernel_rfl) rfl rfl (by rfl) 29 #[.pointer (some ⟨I.c1, 0, none⟩), .agg (MC st.mu.m st.mu.u), .int .i64 st.at_, .int .i64 st.r] (by go_simp) (HCL.out _ HD.out.C1 (HCH.out.mono (bDr1 (bRef W)))) ?_
  rintro e w1 ⟨rfl, hl1⟩
  have H1 := Lib.hid (HD.out.clk1 hl1)
  have B1 := Lib.hid ((ButS.refl I.L W).drew.trans (b1 hl1))
  have G1 := Lib.hid (HG.out.keep B1.out HNL.out)
  have s1 : (fun V => Stat I s.most V ∧ StB V g st) w1 := ⟨H1.out.st, G1.out⟩
  have A1 := Lib.hid (HSTA.out.below (B1.out.into HBW.out HI.out))
  refine ⟨_, rfl, s1, ?_⟩
  simp only [List.setIfInBounds_toArray, List.set_cons_zero, List.set_cons_succ]
  refine hTakeS (i := 13) (k := 21) (v := .int .i64 ev) rfl rfl (by kernel_rfl) (by kernel_rfl) (by kernel_rfl) (fun cx ax wx hx => hP cx ax _ _ wx hx) (yieldsIf_val (by rfl) (by intro W; go_simp)) s1 ?_
  simp only [List.setIfInBounds_toArray, List.set_cons_zero, List.set_cons_succ]
  refine wpAnyH_done (by kernel_rfl) ?_ _
  have HM := Lib.hid G1.out.msg
  have d17 := G1.out.at_
  have d18 := G1.out.r
  clear s1
  go_wp2_with (first
    | ((with_reducible refine at_loadG' ?_); refine wpList_loadW (by rfl) _ _ rfl g 1 rfl (MC st.mu.m st.mu.u) _ HM.out Try.underlying37 rfl (by kernel_rfl) ?_)
    | (go_at_call 21; (with_reducible refine (HPS.out _ H1.out B1.out A1.out).mono ?_); rintro e w2 ⟨rfl, hl2⟩; have H2 := Lib.hid (H1.out.pair hl2); have B2 := Lib.hid (B1.out.trans (RunP.bP hl2)); clear hl2))
  exact hQ.out _ _ _ _ _ _ _ _ _ _ _ _ _ _ _ _ _ _ _ _ _ _ _ _ _ _ _ ⟨_, H2.out, hok, B2.out⟩

set_option maxRecDepth 1000000 in
set_option maxHeartbeats 16000000 in
theorem rn_k1_x {I : Ids} {w W : World} {s : PP} {st : Stp} {g : Nat} {a0 a1 a3 a4 a6 a7 a8 a9 a10 a16 a18 a20 a21 a22 a23 a24 a25 a26 a27 a28 a29 a30 a31 a32 a33 a34 a35 a36 a37 a38 a39 a40 a41 a42 a43 a44 a45 a46 a47 a48 a49 a50 a51 a52 a53 a54 a55 a56 a57 a58 a59 a60 a61 a62 a63 a64 a65 a66 a67 a68 a69 a70 a71 a72 a73 a74 a75 a76 a77 a78 a79 a80 a81 a82 a83 a84 a85 a86 a87 a88 a89 a90 a91 a92 a93 a94 a95 a96 a97 a98 a99 a100 a101 a102 a103 a104 a105 a106 a107 a108 a109 a110 a111 a112 a113 a114 a115 a116 a117 a118 a119 a120 a121 a122 a123 a124 a125 a126 a127 a128 a129 a130 a131 a132 a133 a134 a135 a136 a137 a138 a139 a140 a141 a142 a143 a144 a145 a146 a147 a148 a149 a150 a151 a152 a153 a154 a155 a156 a157 a158 a159 a160 a161 a162 a163 a164 a165 a166 a167 a168 a169 a170 a171 a172 a173 a174 a175 a176 a177 a178 a179 a180 a181 a182 a183 a184 a185 a186 a187 a188 a189 a190 a191 a192 a193 a194 a195 a196 a197 a198 a199 a200 a201 a202 a203 a204 a205 a206 a207 a208 a209 a210 a211 a212 a213 a214 a215 a216 a217 a218 a219 a220 a221 a222 a223 a224 a225 a226 a227 a228 a229 a230 a231 a232 a233 a234 a235 a236 a237 a238 a239 a240 a241 a242 a243 a244 a245 a246 a247 a248 a249 a250 a251 a252 a253 a254 a255 a256 a257 a258 a259 a260 a261 a262 a263 a264 a265 a266 a267 a268 a269 a270 a271 a272 a273 a274 a275 a276 a277 a278 a279 a280 a281 a282 a283 a284 a285 a286 a287 a288 a289 a290 a291 a292 a293 a294 a295 a296 a297 a298 a299 a300 a301 a302 a303 a304 a305 a306 a307 a308 a309 a310 a311 a312 a313 a314 a315 a316 a317 a318 a319 a320 a321 a322 a323 a324 a325 a326 a327 a328 a329 a330 a331 a332 a333 a334 a335 a336 a337 a338 a339 a340 a341 a342 a343 a344 a345 a346 a347 a348 a349 a350 a351 a352 a353 a354 a355 a356 a357 a358 a359 a360 a361 a362 a363 a364 a365 a366 a367 : Value} {Q0 : Exit → Act → World → Prop}
    (hk : RunP I W s s) (ok : s.Ok) (hg : StB W g st) (hst : st.Ok w) (hbw : Below w.heap.size w W) (hI : ∀ k, k ∈ I.L → w.heap.size ≤ k) (hl : st.mu.m.path.length ≤ 40) (hd0 : ¬ st.mu.m.dom = 0) (hd1 : ¬ st.mu.m.dom = 1)
    (hP : ∀ c (ax : Act) (kx : Option Nat) (vx : Value) (wx : World), Q0 (.panic c) (ax.put kx vx) wx → Q0 (.panic c) ax wx)
    (hQ : ∀ (z4 z21 z158 z159 z160 z161 z162 z163 z164 z165 z166 z167 z168 z169 z170 z171 z172 z173 z174 z175 z176 z177 z178 z179 z180 z181 : Value) (W' : World), Done I W W' → Q0 .normal ⟨#[a0, a1, .pointer (some ⟨I.bm, 0, none⟩), a3, z4, .pointer (some ⟨I.p, 0, none⟩), a6, a7, a8, a9, a10, .pointer (some ⟨I.bs, 0, none⟩), .pointer (some ⟨I.bo, 0, none⟩), .pointer (some ⟨I.bl, 0, none⟩), .func (.func 23) #[] #[.pointer (some ⟨I.bo, 0, none⟩), .pointer (some ⟨I.bs, 0, none⟩), .pointer (some ⟨I.bm, 0, none⟩)], .func (.func 27) #[] #[.pointer (some ⟨I.bs, 0, none⟩), .pointer (some ⟨I.bm, 0, none⟩), .pointer (some ⟨I.bl, 0, none⟩)], a16, .pointer (some ⟨g, 0, none⟩), a18, .bool false, a20, z21, a22, a23, a24, a25, a26, a27, a28, a29, a30, a31, a32, a33, a34, a35, a36, a37, a38, a39, a40, a41, a42, a43, a44, a45, a46, a47, a48, a49, a50, a51, a52, a53, a54, a55, a56, a57, a58, a59, a60, a61, a62, a63, a64, a65, a66, a67, a68, a69, a70, a71, a72, a73, a74, a75, a76, a77, a78, a79, a80, a81, a82, a83, a84, a85, a86, a87, a88, a89, a90, a91, a92, a93, a94, a95, a96, a97, a98, a99, a100, a101, a102, a103, a104, a105, a106, a107, a108, a109, a110, a111, a112, a113, a114, a115, a116, a117, a118, a119, a120, a121, a122, a123, a124, a125, a126, a127, a128, a129, a130, a131, a132, a133, a134, a135, a136, a137, a138, a139, a140, a141, a142, a143, a144, a145, a146, a147, a148, a149, a150, a151, a152, a153, a154, a155, a156, a157, z158, z159, z160, z161, z162, z163, z164, z165, z166, z167, z168, z169, z170, z171, z172, z173, z174, z175, z176, z177, z178, z179, z180, z181, a182, a183, a184, a185, a186, a187, a188, a189, a190, a191, a192, a193, a194, a195, a196, a197, a198, a199, a200, a201, a202, a203, a204, a205, a206, a207, a208, a209, a210, a211, a212, a213, a214, a215, a216, a217, a218, a219, a220, a221, a222, a223, a224, a225, a226, a227, a228, a229, a230, a231, a232, a233, a234, a235, a236, a237, a238, a239, a240, a241, a242, a243, a244, a245, a246, a247, a248, a249, a250, a251, a252, a253, a254, a255, a256, a257, a258, a259, a260, a261, a262, a263, a264, a265, a266, a267, a268, a269, a270, a271, a272, a273, a274, a275, a276, a277, a278, a279, a280, a281, a282, a283, a284, a285, a286, a287, a288, a289, a290, a291, a292, a293, a294, a295, a296, a297, a298, a299, a300, a301, a302, a303, a304, a305, a306, a307, a308, a309, a310, a311, a312, a313, a314, a315, a316, a317, a318, a319, a320, a321, a322, a323, a324, a325, a326, a327, a328, a329, a330, a331, a332, a333, a334, a335, a336, a337, a338, a339, a340, a341, a342, a343, a344, a345, a346, a347, a348, a349, a350, a351, a352, a353, a354, a355, a356, a357, a358, a359, a360, a361, a362, a363, a364, a365, a366, a367], []⟩ W') :
    Code.wp Try.prog (partOf 31 0) Q0 ⟨#[a0, a1, .pointer (some ⟨I.bm, 0, none⟩), a3, a4, .pointer (some ⟨I.p, 0, none⟩), a6, a7, a8, a9, a10, .pointer (some ⟨I.bs, 0, none⟩), .pointer (some ⟨I.bo, 0, none⟩), .pointer (some ⟨I.bl, 0, none⟩), .func (.func 23) #[] #[.pointer (some ⟨I.bo, 0, none⟩), .pointer (some ⟨I.bs, 0, none⟩), .pointer (some ⟨I.bm, 0, none⟩)], .func (.func 27) #[] #[.pointer (some ⟨I.bs, 0, none⟩), .pointer (some ⟨I.bm, 0, none⟩), .pointer (some ⟨I.bl, 0, none⟩)], a16, .pointer (some ⟨g, 0, none⟩), a18, .bool false, a20, a21, a22, a23, a24, a25, a26, a27, a28, a29, a30, a31, a32, a33, a34, a35, a36, a37, a38, a39, a40, a41, a42, a43, a44, a45, a46, a47, a48, a49, a50, a51, a52, a53, a54, a55, a56, a57, a58, a59, a60, a61, a62, a63, a64, a65, a66, a67, a68, a69, a70, a71, a72, a73, a74, a75, a76, a77, a78, a79, a80, a81, a82, a83, a84, a85, a86, a87, a88, a89, a90, a91, a92, a93, a94, a95, a96, a97, a98, a99, a100, a101, a102, a103, a104, a105, a106, a107, a108, a109, a110, a111, a112, a113, a114, a115, a116, a117, a118, a119, a120, a121, a122, a123, a124, a125, a126, a127, a128, a129, a130, a131, a132, a133, a134, a135, a136, a137, a138, a139, a140, a141, a142, a143, a144, a145, a146, a147, a148, a149, a150, a151, a152, a153, a154, a155, a156, a157, a158, a159, a160, a161, a162, a163, a164, a165, a166, a167, a168, a169, a170, a171, a172, a173, a174, a175, a176, a177, a178, a179, a180, a181, a182, a183, a184, a185, a186, a187, a188, a189, a190, a191, a192, a193, a194, a195, a196, a197, a198, a199, a200, a201, a202, a203, a204, a205, a206, a207, a208, a209, a210, a211, a212, a213, a214, a215, a216, a217, a218, a219, a220, a221, a222, a223, a224, a225, a226, a227, a228, a229, a230, a231, a232, a233, a234, a235, a236, a237, a238, a239, a240, a241, a242, a243, a244, a245, a246, a247, a248, a249, a250, a251, a252, a253, a254, a255, a256, a257, a258, a259, a260, a261, a262, a263, a264, a265, a266, a267, a268, a269, a270, a271, a272, a273, a274, a275, a276, a277, a278, a279, a280, a281, a282, a283, a284, a285, a286, a287, a288, a289, a290, a291, a292, a293, a294, a295, a296, a297, a298, a299, a300, a301, a302, a303, a304, a305, a306, a307, a308, a309, a310, a311, a312, a313, a314, a315, a316, a317, a318, a319, a320, a321, a322, a323, a324, a325, a326, a327, a328, a329, a330, a331, a332, a333, a334, a335, a336, a337, a338, a339, a340, a341, a342, a343, a344, a345, a346, a347, a348, a349, a350, a351, a352, a353, a354, a355, a356, a357, a358, a359, a360, a361, a362, a363, a364, a365, a366, a367], []⟩ W := by
  replace hQ := Lib.hid hQ
  have HNL := Lib.hid (hg.not hk)
  have HBW := Lib.hid hbw
  have HI := Lib.hid hI
  clear hbw hI
  have HK := Lib.hid hk
  have HG := Lib.hid hg
  have eE : s.folE st.mu.m st.at_ st.r = 31 := by unfold PP.folE; rw [if_neg hd0, if_neg hd1]
  have eS : s.folS st.mu.m st.at_ st.r = s := by unfold PP.folS; rw [if_neg hd0, if_neg hd1]
  have hlen : st.mu.m.path.length ≤ 140737488355328 := by omega
  have HPS : Hid (∀ W', RunP I W' s s → ButS I.L W W' → LArg W' st.mu.u st.mu.m.path → Calls Try.prog 21 #[.pointer (some ⟨I.p, 0, none⟩), .agg (MC st.mu.m st.mu.u), .int .i64 st.at_, .int .i64 st.r] W' fun e w' => e = .returned (.int .i64 31) ∧ LeaveP I.p I.k0 I.k1 W' s w') := Lib.hid (fun W' h _ ha => by
    have key := pfollow_any h.P st.mu.m st.mu.u hst.mu.wf ha hlen hst.at_ hst.r
    rw [eE, eS] at key
    exact key)
  have HM := Lib.hid hg.msg
  have HA := Lib.hid (hst.mu.arg.below HBW.out)
  have d17 := hg.at_
  have d18 := hg.r
  clear hk hg hst eE eS hd0 hd1
  conv => arg 2; whnf
  go_wp2_with (first
    | ((with_reducible refine at_loadG' ?_); refine wpList_loadW (by rfl) _ _ rfl g 1 rfl (MC st.mu.m st.mu.u) _ HM.out Try.underlying37 rfl (by kernel_rfl) ?_)
    | (go_at_call 21; (with_reducible refine (HPS.out _ HK.out (ButS.refl _ _) HA.out).mono ?_); rintro e w1 ⟨rfl, hl1⟩; have H1 := Lib.hid (HK.out.pair hl1); have B1 := Lib.hid (RunP.bP hl1); clear hl1))
  exact hQ.out _ _ _ _ _ _ _ _ _ _ _ _ _ _ _ _ _ _ _ _ _ _ _ _ _ _ _ ⟨s, H1.out, ok, B1.out⟩


end Go.Proofs.Ytfeoppbincldfaa
