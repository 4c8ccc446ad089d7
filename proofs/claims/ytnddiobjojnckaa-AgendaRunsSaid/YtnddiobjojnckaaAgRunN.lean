/- AgendaRuns in parts: Next. Written by gen_agrun.py. -/
import Derived.Test.YtnddiobjojnckaaAgRunK
namespace Go.Proofs.Ytnddiobjojnckaa
open Go.RowKit Go.Joins Go.Deep

theorem Best.uniq {L : List It} {k b c : Nat} (h : Best L k b) (h2 : Best L k c) : b = c := by
  obtain ⟨a1, a2, a3⟩ := h
  obtain ⟨b1, b2, b3⟩ := h2
  rcases Nat.lt_trichotomy b c with g | g | g
  · have := b3 b g; have := a2 c b1; omega
  · exact g
  · have := a3 c g; have := b2 b a1; omega
/-- The row's cells, and the box, behind a call. -/
def CellsAt (W : World) (r b t : Nat) (L : List It) (x : Int) : Prop := W.cell? ⟨r, t * 3, none⟩ = some (.int .i64 (it L t).1) ∧ W.cell? ⟨r, t * 3 + 1, none⟩ = some (.int .i64 (it L t).2.1) ∧ W.cell? ⟨r, t * 3 + 2, none⟩ = some (.int .i64 (it L t).2.2) ∧ W.cell? ⟨b, 1, none⟩ = some (.int .i64 x)
theorem cells_at {B b r m c : Nat} {W : World} {L : List It} {k x y z : Int} {t : Nat} (h : Its B W (.slice (some ⟨r, 0, none⟩) m c) L) (ht : t < L.length) (ho : OBox W b k x y z) : CellsAt W r b t L x := by
  obtain ⟨r', cap, e, _, _, _, hc⟩ := h.row (by omega)
  injection e with e1 e2 e3
  injection e1 with e1
  injection e1 with e1 _ _
  subst e1
  obtain ⟨c1, c2, c3⟩ := hc t ht
  exact ⟨c1, c2, c3, ho.cells.2.1⟩
set_option maxRecDepth 1000000 in
set_option maxHeartbeats 16000000 in
theorem rn_next {w W : World} {B b g i m c4 : Nat} {now put kk x y z : Int} {L : List It} {p4 : Option Addr} {a : Int} {a0 a1 a2 a6 a7 a9 a10 a11 a12 a14 a15 a16 a17 a18 a19 a20 a21 a22 a23 a24 a25 a26 a27 a28 a29 a30 a31 a32 a33 a34 a35 a36 a37 a38 a39 a40 a41 a42 a43 a44 a45 a46 a47 a48 a49 a50 a51 a52 a53 a54 a55 a56 a57 a58 a59 a60 a61 a62 a63 a64 a65 a66 a67 a68 a69 a70 a71 a72 a73 a74 a75 a76 a77 a78 a79 a80 a81 a82 a83 a84 a85 a86 a87 a88 a89 a90 a91 a92 a93 a94 a95 a96 a97 a98 a99 a100 a101 a102 a103 a104 a105 a106 a107 a108 a109 a110 a111 a112 a113 a114 a115 a116 a117 a118 a119 a120 a121 a122 a123 a124 a125 a126 a127 a128 a129 a130 a131 a132 a133 a134 a135 a136 a137 a138 a139 a140 a141 a142 a143 a144 a145 a146 a147 a148 a149 a150 a151 a152 a153 a154 a155 a156 a157 a158 a159 a160 a161 a162 a163 a164 a165 a166 a167 a168 a169 a170 a171 a172 a173 a174 a175 a176 a177 a178 a179 a180 a181 a182 a183 a184 a185 a186 a187 a188 a189 a190 a191 a192 a193 a194 a195 a196 a197 a198 a199 a200 a201 a202 a203 a204 a205 a206 a207 a208 a209 a210 a211 a212 a213 a214 a215 a216 a217 a218 a219 a220 a221 a222 a223 a224 a225 a226 a227 a228 a229 a230 a231 a232 a233 a234 a235 a236 a237 a238 a239 a240 a241 a242 a243 a244 a245 a246 a247 a248 a249 a250 a251 a252 a253 a254 a255 : Value} {Q0 : Exit → Act → World → Prop}
    (hR : RunSt w B g i now put L (.slice p4 m c4) W) (hB : w.heap.size ≤ B) (hm : L.length = m) (hm2 : m ≤ 120) (hO : OBox W b kk x y z) (ha : BestSt L m a)
    (hX : ∀ (z2 z16 z17 z18 z19 z171 z172 z173 z174 z175 z176 z177 z178 z179 z180 z181 z182 z183 z184 z185 z186 z187 z188 z189 z190 z191 z192 z193 z194 z195 z196 z197 z198 z199 z200 z201 z202 z203 z204 z205 z206 z207 z208 z209 z210 z211 z212 z213 z214 z215 z216 z217 z218 z219 z220 z221 z222 z223 z224 z225 z226 z227 z228 z229 z230 z231 z232 z233 z234 z235 z236 z237 z238 z239 z240 z241 z242 z243 z244 : Value) (W' : World), RunSt w B g i now put L (.slice p4 m c4) W' → Q0 (.exit 2) ⟨#[a0, a1, z2, .pointer (some ⟨g, 0, none⟩), .slice p4 m c4, .int .i64 now, a6, a7, .pointer (some ⟨b, 0, none⟩), a9, a10, a11, a12, .int .i64 a, a14, a15, z16, z17, z18, z19, a20, a21, a22, a23, a24, a25, a26, a27, a28, a29, a30, a31, a32, a33, a34, a35, a36, a37, a38, a39, a40, a41, a42, a43, a44, a45, a46, a47, a48, a49, a50, a51, a52, a53, a54, a55, a56, a57, a58, a59, a60, a61, a62, a63, a64, a65, a66, a67, a68, a69, a70, a71, a72, a73, a74, a75, a76, a77, a78, a79, a80, a81, a82, a83, a84, a85, a86, a87, a88, a89, a90, a91, a92, a93, a94, a95, a96, a97, a98, a99, a100, a101, a102, a103, a104, a105, a106, a107, a108, a109, a110, a111, a112, a113, a114, a115, a116, a117, a118, a119, a120, a121, a122, a123, a124, a125, a126, a127, a128, a129, a130, a131, a132, a133, a134, a135, a136, a137, a138, a139, a140, a141, a142, a143, a144, a145, a146, a147, a148, a149, a150, a151, a152, a153, a154, a155, a156, a157, a158, a159, a160, a161, a162, a163, a164, a165, a166, a167, a168, a169, a170, z171, z172, z173, z174, z175, z176, z177, z178, z179, z180, z181, z182, z183, z184, z185, z186, z187, z188, z189, z190, z191, z192, z193, z194, z195, z196, z197, z198, z199, z200, z201, z202, z203, z204, z205, z206, z207, z208, z209, z210, z211, z212, z213, z214, z215, z216, z217, z218, z219, z220, z221, z222, z223, z224, z225, z226, z227, z228, z229, z230, z231, z232, z233, z234, z235, z236, z237, z238, z239, z240, z241, z242, z243, z244, a245, a246, a247, a248, a249, a250, a251, a252, a253, a254, a255], []⟩ W')
    (hP : ∀ c (ax : Act) (kx : Option Nat) (vx : Value) (wx : World), Q0 (.panic c) (ax.put kx vx) wx → Q0 (.panic c) ax wx)
    (hQ : ∀ (z2 z16 z17 z18 z19 z171 z172 z173 z174 z175 z176 z177 z178 z179 z180 z181 z182 z183 z184 z185 z186 z187 z188 z189 z190 z191 z192 z193 z194 z195 z196 z197 z198 z199 z200 z201 z202 z203 z204 z205 z206 z207 z208 z209 z210 z211 z212 z213 z214 z215 z216 z217 z218 z219 z220 z221 z222 z223 z224 z225 z226 z227 z228 z229 z230 z231 z232 z233 z234 z235 z236 z237 z238 z239 z240 z241 z242 z243 z244 : Value) (p' : Option Addr) (m' c' : Nat) (L' : List It) (now' : Int) (W' : World), RunSt w B g i now' put L' (.slice p' m' c') W' → L'.length = m' → Q0 .normal ⟨#[a0, a1, z2, .pointer (some ⟨g, 0, none⟩), (.slice p' m' c'), .int .i64 now', a6, a7, .pointer (some ⟨b, 0, none⟩), a9, a10, a11, a12, .int .i64 a, a14, a15, z16, z17, z18, z19, a20, a21, a22, a23, a24, a25, a26, a27, a28, a29, a30, a31, a32, a33, a34, a35, a36, a37, a38, a39, a40, a41, a42, a43, a44, a45, a46, a47, a48, a49, a50, a51, a52, a53, a54, a55, a56, a57, a58, a59, a60, a61, a62, a63, a64, a65, a66, a67, a68, a69, a70, a71, a72, a73, a74, a75, a76, a77, a78, a79, a80, a81, a82, a83, a84, a85, a86, a87, a88, a89, a90, a91, a92, a93, a94, a95, a96, a97, a98, a99, a100, a101, a102, a103, a104, a105, a106, a107, a108, a109, a110, a111, a112, a113, a114, a115, a116, a117, a118, a119, a120, a121, a122, a123, a124, a125, a126, a127, a128, a129, a130, a131, a132, a133, a134, a135, a136, a137, a138, a139, a140, a141, a142, a143, a144, a145, a146, a147, a148, a149, a150, a151, a152, a153, a154, a155, a156, a157, a158, a159, a160, a161, a162, a163, a164, a165, a166, a167, a168, a169, a170, z171, z172, z173, z174, z175, z176, z177, z178, z179, z180, z181, z182, z183, z184, z185, z186, z187, z188, z189, z190, z191, z192, z193, z194, z195, z196, z197, z198, z199, z200, z201, z202, z203, z204, z205, z206, z207, z208, z209, z210, z211, z212, z213, z214, z215, z216, z217, z218, z219, z220, z221, z222, z223, z224, z225, z226, z227, z228, z229, z230, z231, z232, z233, z234, z235, z236, z237, z238, z239, z240, z241, z242, z243, z244, a245, a246, a247, a248, a249, a250, a251, a252, a253, a254, a255], []⟩ W') :
    Code.wp Try.prog (partOf 54 0) Q0 ⟨#[a0, a1, a2, .pointer (some ⟨g, 0, none⟩), .slice p4 m c4, .int .i64 now, a6, a7, .pointer (some ⟨b, 0, none⟩), a9, a10, a11, a12, .int .i64 a, a14, a15, a16, a17, a18, a19, a20, a21, a22, a23, a24, a25, a26, a27, a28, a29, a30, a31, a32, a33, a34, a35, a36, a37, a38, a39, a40, a41, a42, a43, a44, a45, a46, a47, a48, a49, a50, a51, a52, a53, a54, a55, a56, a57, a58, a59, a60, a61, a62, a63, a64, a65, a66, a67, a68, a69, a70, a71, a72, a73, a74, a75, a76, a77, a78, a79, a80, a81, a82, a83, a84, a85, a86, a87, a88, a89, a90, a91, a92, a93, a94, a95, a96, a97, a98, a99, a100, a101, a102, a103, a104, a105, a106, a107, a108, a109, a110, a111, a112, a113, a114, a115, a116, a117, a118, a119, a120, a121, a122, a123, a124, a125, a126, a127, a128, a129, a130, a131, a132, a133, a134, a135, a136, a137, a138, a139, a140, a141, a142, a143, a144, a145, a146, a147, a148, a149, a150, a151, a152, a153, a154, a155, a156, a157, a158, a159, a160, a161, a162, a163, a164, a165, a166, a167, a168, a169, a170, a171, a172, a173, a174, a175, a176, a177, a178, a179, a180, a181, a182, a183, a184, a185, a186, a187, a188, a189, a190, a191, a192, a193, a194, a195, a196, a197, a198, a199, a200, a201, a202, a203, a204, a205, a206, a207, a208, a209, a210, a211, a212, a213, a214, a215, a216, a217, a218, a219, a220, a221, a222, a223, a224, a225, a226, a227, a228, a229, a230, a231, a232, a233, a234, a235, a236, a237, a238, a239, a240, a241, a242, a243, a244, a245, a246, a247, a248, a249, a250, a251, a252, a253, a254, a255], []⟩ W := by
  replace hQ := Lib.hid hQ
  replace hX := Lib.hid hX
  obtain ⟨_, o1, _⟩ := hO.cells
  rcases ha with ⟨hm0, rfl⟩ | ⟨t, rfl, hbest⟩
  · have HD := Lib.hid (next_no hR hO (fun b hb => by have := hb.1; omega) (.inl (by omega)))
    clear hR hO hm hm0
    conv => arg 2; whnf
    go_upto_region 55 with (go_at_call 9; (with_reducible refine HD.out.mono ?_); rintro e W2 ⟨rfl, h2, ho⟩; have H2 := Lib.hid h2; have o2 := ho.cells.2.1; clear h2 ho)
    go_quiet (fail)
    go_wp2_with fail
    exact hX.out _ _ _ _ _ _ _ _ _ _ _ _ _ _ _ _ _ _ _ _ _ _ _ _ _ _ _ _ _ _ _ _ _ _ _ _ _ _ _ _ _ _ _ _ _ _ _ _ _ _ _ _ _ _ _ _ _ _ _ _ _ _ _ _ _ _ _ _ _ _ _ _ _ _ _ _ _ _ _ _ (run_far H2.out (AgI.bDr (AgI.bRef _) _))
  · rw [← hm] at hbest
    have g2 : t < m := by have := hbest.1; omega
    have et : IntKind.i64.wrap (t : Int) = (t : Int) := by rw [IntKind.wrap_i64]; omega
    have d2 : decide ((t : Int) < 0) = false := decide_eq_false (by omega)
    obtain ⟨r, cap, e, _, _, _, hc⟩ := hR.its.row (by have := hbest.1; omega)
    injection e with e1 e2 e3
    subst e1
    subst e3
    have HM := Lib.hid hm
    have HO := Lib.hid hO
    clear hc e2
    obtain ⟨n, hn⟩ : ∃ n, (it L t).1 = n := ⟨_, rfl⟩
    by_cases hx : x < n
    · have d1 : decide (x < n) = true := decide_eq_true hx
      have HD := Lib.hid (next_no hR hO (fun b hb => by rw [hb.uniq hbest, hn]; exact hx) (.inr ⟨t, hbest⟩))
      clear hR hO hm hbest hx o1
      conv => arg 2; whnf
      obtain ⟨_, o1, _⟩ := HO.out.cells
      go_upto_region 55 with (go_at_call 9; (with_reducible refine HD.out.mono ?_); rintro e W2 ⟨rfl, h2, ho⟩; have H2 := Lib.hid h2; obtain ⟨c1, c2, c3, o2⟩ := cells_at (t := t) h2.its (by have := HM.out; omega) ho; rw [hn] at c1; clear h2 ho)
      go_quiet (fail)
      go_wp2_with fail
      exact hX.out _ _ _ _ _ _ _ _ _ _ _ _ _ _ _ _ _ _ _ _ _ _ _ _ _ _ _ _ _ _ _ _ _ _ _ _ _ _ _ _ _ _ _ _ _ _ _ _ _ _ _ _ _ _ _ _ _ _ _ _ _ _ _ _ _ _ _ _ _ _ _ _ _ _ _ _ _ _ _ _ (run_far H2.out (AgI.bDr (AgI.bRef _) _))
    · have d1 : decide (x < n) = false := decide_eq_false hx
      have HD := Lib.hid (next_yes hR hO hB (by omega) hbest (by omega))
      clear hR hO hm hbest hx
      rw [hn] at HD
      obtain ⟨n2, hn2⟩ : ∃ n, (it L t).2.1 = n := ⟨_, rfl⟩
      obtain ⟨n3, hn3⟩ : ∃ n, (it L t).2.2 = n := ⟨_, rfl⟩
      rw [hn2, hn3] at HD
      conv => arg 2; whnf
      go_upto_region 55 with (go_at_call 9; (with_reducible refine HD.out.mono ?_); rintro e W2 ⟨rfl, h2, ho⟩; have H2 := Lib.hid h2; obtain ⟨c1, c2, c3, o2⟩ := cells_at (t := t) h2.its (by have := HM.out; omega) ho; rw [hn] at c1; rw [hn2] at c2; rw [hn3] at c3; clear h2 ho)
      go_quiet (fail)
      go_upto_region 61 with fail
      refine rn_erase61 (H2.out.below (AgI.bDr (AgI.bRef _) _)).its HM.out hm2 g2 (fun cx ax kx vx wx hx => hP cx ax kx vx wx hx) ?_
      intro z235 z236 z237 z238 z239 z240 z241 z242 z243 z244 p' m' c' W3 hl hi hb
      exact hQ.out _ _ _ _ _ _ _ _ _ _ _ _ _ _ _ _ _ _ _ _ _ _ _ _ _ _ _ _ _ _ _ _ _ _ _ _ _ _ _ _ _ _ _ _ _ _ _ _ _ _ _ _ _ _ _ _ _ _ _ _ _ _ _ _ _ _ _ _ _ _ _ _ _ _ _ _ _ _ _ _ _ _ _ _ _ ((H2.out.below (AgI.bDr (AgI.bRef _) _)).out hb hi) hl

end Go.Proofs.Ytnddiobjojnckaa
