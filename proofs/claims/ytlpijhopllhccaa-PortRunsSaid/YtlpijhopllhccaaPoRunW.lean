/- PortRuns: its loop 2 (what the law reckons for each class) in a declaration of its own. Written by gen_porunw.py. -/
import Derived.Test.YtlpijhopllhccaaPoRunP
namespace Go.Proofs.Ytlpijhopllhccaa
open Go.RowKit Go.Joins

theorem wp_hideP {P : Program} {c : Code} {Q : Exit → Act → World → Prop} {a : Act} {w : World} (hP : ∀ c (ax : Act) (kx : Option Nat) (vx : Value) (wx : World), Q (.panic c) (ax.put kx vx) wx → Q (.panic c) ax wx)
    (h : ∀ Q' : Exit → Act → World → Prop, (∀ e a w, Q e a w → Q' e a w) → (∀ c (ax : Act) (kx : Option Nat) (vx : Value) (wx : World), Q' (.panic c) (ax.put kx vx) wx → Q' (.panic c) ax wx) → c.wp P Q' a w) : c.wp P Q a w := h Q (fun _ _ _ q => q) hP
def LpRel (w1 : World) (oi : Obj) (l : Nat → Int) (iv : Value) (wr : World) : Prop :=
  ∃ i : Nat, iv = .int .i64 (i : Int) ∧ i ≤ 8 ∧ Below w1.heap.size w1 wr ∧ wr.heap[w1.heap.size]? = some oi ∧ wr.heap[w1.heap.size + 1]? = some (o8 (fun j => if j < i then l j else 0))
section
variable {w1 W : World} {oi : Obj} {l : Nat → Int} {i : Nat} {v y : Int}
theorem LpRel.drew {iv : Value} (h : LpRel w1 oi l iv W) : LpRel w1 oi l iv W.drew := by
  obtain ⟨i, h0, h1, h2, h3, h4⟩ := h
  exact ⟨i, h0, h1, bDr1 h2, h3, h4⟩
theorem LpRel.of (hb : Below w1.heap.size w1 W) (h1 : W.heap[w1.heap.size]? = some oi) (h2 : W.heap[w1.heap.size + 1]? = some (o8 (upd (fun j => if j < i then l j else 0) i v))) (hi : i < 8) (hv : v = l i) : LpRel w1 oi l (.int .i64 ((i + 1 : Nat) : Int)) W := by
  refine ⟨i + 1, rfl, by omega, hb, h1, h2.trans (congrArg (fun r => some (o8 r)) ?_)⟩
  funext j
  unfold upd
  by_cases e : j = i
  · subst e; simp [hv]
  · rw [if_neg e]
    show (if j < i then l j else 0) = (if j < i + 1 then l j else 0)
    by_cases e2 : j < i
    · rw [if_pos e2, if_pos (by omega)]
    · rw [if_neg e2, if_neg (by omega)]
theorem LpRel.set (hb : Below w1.heap.size w1 W) (h1 : W.heap[w1.heap.size]? = some oi) (h2 : W.heap[w1.heap.size + 1]? = some (o8 (upd (fun j => if j < i then l j else 0) i v))) (hi : i < 8) (hy : y = l i) : LpRel w1 oi l (.int .i64 ((i + 1 : Nat) : Int)) (W.setCell ⟨w1.heap.size + 1, i, none⟩ (.int .i64 y)) := by
  refine LpRel.of (v := y) (hb.setCell (p := ⟨w1.heap.size + 1, i, none⟩) (by show w1.heap.size ≤ w1.heap.size + 1; omega) _) ((heap_setCell_other W ⟨w1.heap.size + 1, i, none⟩ _ _ (by simp)).trans h1) ?_ hi hy
  refine (o8_set _ h2 hi y).trans (congrArg (fun r => some (o8 r)) ?_)
  funext j
  unfold upd
  by_cases e : j = i
  · rw [if_pos e, if_pos e]
  · rw [if_neg e, if_neg e, if_neg e]
theorem LpRel.set2 (hb : Below w1.heap.size w1 W) (h1 : W.heap[w1.heap.size]? = some oi) (h2 : W.heap[w1.heap.size + 1]? = some (o8 (upd (fun j => if j < i then l j else 0) i v))) (hi : i < 8) (x : Int) (hy : y = l i) : LpRel w1 oi l (.int .i64 ((i + 1 : Nat) : Int)) ((W.setCell ⟨w1.heap.size + 1, i, none⟩ (.int .i64 x)).setCell ⟨w1.heap.size + 1, i, none⟩ (.int .i64 y)) := by
  refine LpRel.set (v := x) (hb.setCell (p := ⟨w1.heap.size + 1, i, none⟩) (by show w1.heap.size ≤ w1.heap.size + 1; omega) _) ((heap_setCell_other W ⟨w1.heap.size + 1, i, none⟩ _ _ (by simp)).trans h1) ?_ hi hy
  refine (o8_set _ h2 hi x).trans (congrArg (fun r => some (o8 r)) ?_)
  funext j
  unfold upd
  by_cases e : j = i
  · rw [if_pos e, if_pos e]
  · rw [if_neg e, if_neg e, if_neg e]
end
set_option maxRecDepth 1000000 in
set_option maxHeartbeats 16000000 in
theorem rn_loop2 {w1 wc : World} {c1 : Nat} {Q : PL} {m : Int} {l : Nat → Int} {oi : Obj} {lp : Option Addr} {ln lc : Nat} {Q0 : Exit → Act → World → Prop} {a0 a1 a2 a3 a4 a5 a6 a7 a8 a9 a10 a11 a12 a13 a14 a15 a18 a21 a22 a23 a24 a25 a27 a28 a29 a30 a31 a32 a33 a34 a35 a36 a37 a38 a39 a40 a41 a42 a43 a44 a45 a46 a47 a48 a49 a50 a51 a52 a53 a54 a55 a56 a57 a58 a59 a60 a61 a62 a63 a64 a65 a66 a67 a68 a69 a70 a71 a72 a73 a74 a75 a76 a77 a78 a79 a80 a81 a82 a83 a84 a85 a86 a87 a88 a89 a90 a91 a92 a93 a94 a95 a96 a97 a98 a99 a100 a101 a102 a103 a104 a105 a106 a107 a108 a109 a110 a111 a112 a113 a114 a115 a116 a117 a118 a119 a120 a121 a122 a123 a124 a125 a126 a127 a128 a129 a130 a131 a132 a133 a134 a135 a136 a137 a138 a139 a140 a141 a142 a143 a144 a145 a146 a147 a148 a149 a150 a151 a152 a153 a154 a155 a156 a157 a158 a159 a160 a161 a162 a163 a164 a165 a166 a167 a168 a169 a170 a171 a172 a173 a174 a175 a176 a177 a178 a179 a180 a181 a182 a183 a184 a185 a186 a187 a188 a190 a191 a192 a193 a194 a195 a196 a197 a198 a199 a200 a201 a202 a203 a204 a205 a206 a207 a208 a209 a210 a211 a212 a213 a214 a215 a216 a217 a218 a219 a220 a221 a222 a223 a224 a225 a226 a227 a228 a229 a230 a231 a232 a233 a234 a235 a236 a237 a238 a239 a240 a241 a242 a243 a244 a245 a246 a247 a248 a249 a250 a251 a252 a253 a254 a255 a256 a257 a258 a259 a260 a261 a262 a263 a264 a265 a266 a267 a268 a269 a270 a271 a272 a273 a274 a275 a276 a277 a278 a279 a280 a281 a282 a283 a284 a285 a286 a287 a288 a289 a290 a291 a292 a293 a294 a295 : Value}
    (HL1 : Hid (LB w1 c1 Q.b1 Q.c1 (.slice lp ln lc))) (HT1 : Hid (TArg w1 (.slice lp ln lc) Q.t1)) (HOK : Hid (LOk Q)) (HMM : Hid (0 ≤ m ∧ m ≤ 1099511627776)) (HL : Hid (leftP Q.wt Q.fr Q.b1 Q.c1 Q.t1 m = l)) (HC : Hid (LpRel w1 oi l (.int .i64 0) wc)) (hP : ∀ c (ax : Act) (kx : Option Nat) (vx : Value) (wx : World), Q0 (.panic c) (ax.put kx vx) wx → Q0 (.panic c) ax wx)
    (hQ : ∀ (z27 z189 z190 z191 z192 z193 z194 z195 z196 z197 z198 z199 z200 z201 z202 z203 z204 z205 z206 z207 z208 z209 z210 z211 z212 z213 z214 z215 z216 z217 z218 : Value) (W : World), LpRel w1 oi l (.int .i64 8) W → Q0 (.exit 3) ⟨#[a0, a1, a2, a3, a4, a5, a6, a7, a8, a9, a10, a11, a12, a13, a14, a15, .int .i64 m, .pointer (some ⟨c1, 0, none⟩), a18, .int .i64 Q.fr, .bool Q.wt, a21, a22, a23, a24, a25, .pointer (some ⟨(w1.heap.size + 1), 0, none⟩), z27, a28, a29, a30, a31, a32, a33, a34, a35, a36, a37, a38, a39, a40, a41, a42, a43, a44, a45, a46, a47, a48, a49, a50, a51, a52, a53, a54, a55, a56, a57, a58, a59, a60, a61, a62, a63, a64, a65, a66, a67, a68, a69, a70, a71, a72, a73, a74, a75, a76, a77, a78, a79, a80, a81, a82, a83, a84, a85, a86, a87, a88, a89, a90, a91, a92, a93, a94, a95, a96, a97, a98, a99, a100, a101, a102, a103, a104, a105, a106, a107, a108, a109, a110, a111, a112, a113, a114, a115, a116, a117, a118, a119, a120, a121, a122, a123, a124, a125, a126, a127, a128, a129, a130, a131, a132, a133, a134, a135, a136, a137, a138, a139, a140, a141, a142, a143, a144, a145, a146, a147, a148, a149, a150, a151, a152, a153, a154, a155, a156, a157, a158, a159, a160, a161, a162, a163, a164, a165, a166, a167, a168, a169, a170, a171, a172, a173, a174, a175, a176, a177, a178, a179, a180, a181, a182, a183, a184, a185, a186, a187, a188, z189, z190, z191, z192, z193, z194, z195, z196, z197, z198, z199, z200, z201, z202, z203, z204, z205, z206, z207, z208, z209, z210, z211, z212, z213, z214, z215, z216, z217, z218, a219, a220, a221, a222, a223, a224, a225, a226, a227, a228, a229, a230, a231, a232, a233, a234, a235, a236, a237, a238, a239, a240, a241, a242, a243, a244, a245, a246, a247, a248, a249, a250, a251, a252, a253, a254, a255, a256, a257, a258, a259, a260, a261, a262, a263, a264, a265, a266, a267, a268, a269, a270, a271, a272, a273, a274, a275, a276, a277, a278, a279, a280, a281, a282, a283, a284, a285, a286, a287, a288, a289, a290, a291, a292, a293, a294, a295], []⟩ W) :
    Code.wp Try.prog (partOf 40 1) Q0 ⟨#[a0, a1, a2, a3, a4, a5, a6, a7, a8, a9, a10, a11, a12, a13, a14, a15, .int .i64 m, .pointer (some ⟨c1, 0, none⟩), a18, .int .i64 Q.fr, .bool Q.wt, a21, a22, a23, a24, a25, .pointer (some ⟨(w1.heap.size + 1), 0, none⟩), a27, a28, a29, a30, a31, a32, a33, a34, a35, a36, a37, a38, a39, a40, a41, a42, a43, a44, a45, a46, a47, a48, a49, a50, a51, a52, a53, a54, a55, a56, a57, a58, a59, a60, a61, a62, a63, a64, a65, a66, a67, a68, a69, a70, a71, a72, a73, a74, a75, a76, a77, a78, a79, a80, a81, a82, a83, a84, a85, a86, a87, a88, a89, a90, a91, a92, a93, a94, a95, a96, a97, a98, a99, a100, a101, a102, a103, a104, a105, a106, a107, a108, a109, a110, a111, a112, a113, a114, a115, a116, a117, a118, a119, a120, a121, a122, a123, a124, a125, a126, a127, a128, a129, a130, a131, a132, a133, a134, a135, a136, a137, a138, a139, a140, a141, a142, a143, a144, a145, a146, a147, a148, a149, a150, a151, a152, a153, a154, a155, a156, a157, a158, a159, a160, a161, a162, a163, a164, a165, a166, a167, a168, a169, a170, a171, a172, a173, a174, a175, a176, a177, a178, a179, a180, a181, a182, a183, a184, a185, a186, a187, a188, .int .i64 0, a190, a191, a192, a193, a194, a195, a196, a197, a198, a199, a200, a201, a202, a203, a204, a205, a206, a207, a208, a209, a210, a211, a212, a213, a214, a215, a216, a217, a218, a219, a220, a221, a222, a223, a224, a225, a226, a227, a228, a229, a230, a231, a232, a233, a234, a235, a236, a237, a238, a239, a240, a241, a242, a243, a244, a245, a246, a247, a248, a249, a250, a251, a252, a253, a254, a255, a256, a257, a258, a259, a260, a261, a262, a263, a264, a265, a266, a267, a268, a269, a270, a271, a272, a273, a274, a275, a276, a277, a278, a279, a280, a281, a282, a283, a284, a285, a286, a287, a288, a289, a290, a291, a292, a293, a294, a295], []⟩ wc := by
  rcases Bool.eq_false_or_eq_true Q.wt with hw | hw
  · rw [hw] at hQ
    rw [hw]
    have HW := Lib.hid hw
    clear hw
    have HK := Lib.hid hQ
    clear hQ
    conv => arg 2; whnf
    dsimp only
    go_loopw [189] (fun iv wr => LpRel w1 oi l iv wr) (fun iv _ => 8 - (intOf iv).toNat)
    case atStart => exact HC.out
    case round =>
      refine wp_hideP (fun cx ax kx vx wx hx => hP cx ax kx vx wx hx) (fun Q2 hQ2 hP2 => ?_)
      obtain ⟨i, rfl, hi, hb, h1, h2⟩ := hrel
      have HB := Lib.hid hb
      have H1 := Lib.hid h1
      have H2 := Lib.hid h2
      clear hb h1 h2
      rcases Nat.lt_or_ge i 8 with g | g
      · have d0 : decide ((i : Int) < 8) = true := decide_eq_true (by omega)
        have ec : wrap64 ((i : Int) + 1) = ((i + 1 : Nat) : Int) := by unfold wrap64; omega
        have i1 : (0 : Int) ≤ (i : Int) := by omega
        have i2 : (i : Int) < 8 := by omega
        have HX : Hid (inT m) := Lib.hid (by have := HMM.out; unfold inT; omega)
        have HSL := Lib.hid (stay_left HOK.out.c1 HX.out g)
        have HGD := Lib.hid (chk_good HOK.out.c1)
        obtain ⟨v, hv⟩ : ∃ v, rstayV Q.c1 Q.t1 (gone Q.b1 Q.c1 m) i 1 = v := ⟨_, rfl⟩
        have HST : Hid (∀ (W : World) (sl' : Value), TArg W sl' Q.t1 → Calls Try.prog 20 #[LV Q.b1 Q.c1 sl', .int .i64 m, .int .i64 (i : Int), .bool true] W fun e w' => e = .returned (.int .i64 v) ∧ Below W.heap.size W w') := Lib.hid (fun W sl' h => by have := rstay_any i true h HGD.out HX.out g; rw [show oBit true = 1 from rfl, hv] at this; exact this)
        rw [hv] at HSL
        have HPN := Lib.hid (fun W (h : TArg W (.slice lp ln lc) Q.t1) => plain_any (b := Q.b1) (c := Q.c1) h (by have := HGD.out.len; omega))
        clear hv
        obtain ⟨n0, n1, n2⟩ := (HL1.out.below HB.out).cells
        have q1 := o8_cells _ H2.out g
        have q2 := o8_frozen _ H2.out i
        go_upto_region 43 with (first
          | (go_at_call 21; (with_reducible refine (HPN.out _ (HT1.out.below HB.out)).mono ?_); rintro e w2 ⟨sl2, rfl, ht2, hb⟩; have HT2 := Lib.hid ht2; have HB2 := Lib.hid (bTr HB.out hb); have G1 := Lib.hid ((hb.block _ (lt_of_heap H1.out)).trans H1.out); have G2 := Lib.hid ((hb.block _ (lt_of_heap H2.out)).trans H2.out); clear hb ht2)
          | (go_at_call 20; (with_reducible refine (HST.out _ _ HT2.out).mono ?_); rintro e w3 ⟨rfl, hb⟩; have HB3 := Lib.hid (bTr HB2.out hb); have F1 := Lib.hid ((hb.block _ (lt_of_heap G1.out)).trans G1.out); have F2 := Lib.hid ((hb.block _ (lt_of_heap G2.out)).trans G2.out); have q3 := o8_cells _ F2.out g; have q4 := o8_frozen _ F2.out i; clear hb))
        have k2 := o8_set _ F2.out g v
        have k1 : (w3.setCell ⟨w1.heap.size + 1, i, none⟩ (.int .i64 v)).heap[w1.heap.size]? = some oi := (heap_setCell_other w3 ⟨w1.heap.size + 1, i, none⟩ _ _ (by simp)).trans F1.out
        have kb := HB3.out.setCell (p := ⟨w1.heap.size + 1, i, none⟩) (by show w1.heap.size ≤ w1.heap.size + 1; omega) (.int .i64 v)
        generalize (w3.setCell ⟨w1.heap.size + 1, i, none⟩ (.int .i64 v)) = w4 at *
        have t1 := o8_cells _ k2 g
        rw [upd_same] at t1
        have t2 := o8_frozen _ k2 i
        have t3 := ((HL1.out.below kb).cells).2.1
        have HS := Lib.hid (And.intro t1 t3)
        have HKB := Lib.hid kb
        have HJ1 := Lib.hid k1
        have HJ2 := Lib.hid k2
        have HLI : Hid (l i = min (leftV Q.b1 Q.c1 Q.t1 m (i : Int)) (Q.fr - m)) := Lib.hid (by rw [← HL.out]; unfold leftP; rw [HW.out]; rfl)
        have e2c : wrap64 (2 * Q.c1) = 2 * Q.c1 := by have := HGD.out.c0; have := HGD.out.c1; unfold wrap64; omega
        have e2k : IntKind.i64.wrap (2 * Q.c1) = 2 * Q.c1 := by rw [IntKind.wrap_i64]; have := HGD.out.c0; have := HGD.out.c1; omega
        have efm : wrap64 (Q.fr - m) = Q.fr - m := by have := HMM.out; have := HOK.out.f0; have := HOK.out.f1; unfold wrap64; omega
        clear k1 k2 kb n0 n1 n2 q1 q2 q3 q4
        by_cases e : v = 2 * Q.c1
        · have HV : Hid (2147483648 = leftV Q.b1 Q.c1 Q.t1 m (i : Int)) := Lib.hid (by have h := HSL.out.1; rw [if_pos e] at h; exact h)
          have dv : decide (v = 2 * Q.c1) = true := decide_eq_true e
          have dw : (v == 2 * Q.c1) = true := beq_iff_eq.mpr e
          clear e
          refine wp_region_held_drew (S := fun U => U.cell? ⟨w1.heap.size + 1, i, none⟩ = some (.int .i64 v) ∧ U.cell? ⟨c1, 1, none⟩ = some (.int .i64 Q.c1)) (by kernel_rfl) HS.out (fun h0 => ?_)
          refine hTakeS (i := 0) (k := 199) (v := .int .i64 (i : Int)) rfl rfl (by kernel_rfl) (by kernel_rfl) (by kernel_rfl) (fun cx ax wx hx => hP2 cx ax _ _ wx hx) (yieldsIf_val (by rfl) (by intro W; go_simp)) h0 ?_
          simp only [List.setIfInBounds_toArray, List.set_cons_zero, List.set_cons_succ]
          refine hTakeS (i := 1) (k := 200) (v := .pointer (some ⟨w1.heap.size + 1, i, none⟩)) rfl rfl (by kernel_rfl) (by kernel_rfl) (by kernel_rfl) (fun cx ax wx hx => hP2 cx ax _ _ wx hx) (yieldsIf_val (by rfl) (by intro W; go_simp)) h0 ?_
          simp only [List.setIfInBounds_toArray, List.set_cons_zero, List.set_cons_succ]
          refine hTakeS (i := 2) (k := 201) (v := .int .i64 v) rfl rfl (by kernel_rfl) (by kernel_rfl) (by kernel_rfl) (fun cx ax wx hx => hP2 cx ax _ _ wx hx) (.inl ⟨by rfl, fun W hW => by obtain ⟨b0, b1⟩ := hW; go_simp⟩) h0 ?_
          simp only [List.setIfInBounds_toArray, List.set_cons_zero, List.set_cons_succ]
          refine hTakeS (i := 3) (k := 202) (v := .pointer (some ⟨c1, 1, none⟩)) rfl rfl (by kernel_rfl) (by kernel_rfl) (by kernel_rfl) (fun cx ax wx hx => hP2 cx ax _ _ wx hx) (yieldsIf_val (by rfl) (by intro W; go_simp)) h0 ?_
          simp only [List.setIfInBounds_toArray, List.set_cons_zero, List.set_cons_succ]
          refine hTakeS (i := 4) (k := 203) (v := .int .i64 Q.c1) rfl rfl (by kernel_rfl) (by kernel_rfl) (by kernel_rfl) (fun cx ax wx hx => hP2 cx ax _ _ wx hx) (.inl ⟨by rfl, fun W hW => by obtain ⟨b0, b1⟩ := hW; go_simp⟩) h0 ?_
          simp only [List.setIfInBounds_toArray, List.set_cons_zero, List.set_cons_succ]
          refine hTakeS (i := 5) (k := 204) (v := .int .i64 (2 * Q.c1)) rfl rfl (by kernel_rfl) (by kernel_rfl) (by kernel_rfl) (fun cx ax wx hx => hP2 cx ax _ _ wx hx) (yieldsIf_val (by rfl) (by intro W; go_simp)) h0 ?_
          simp only [List.setIfInBounds_toArray, List.set_cons_zero, List.set_cons_succ]
          refine hTakeS (i := 6) (k := 205) (v := .bool true) rfl rfl (by kernel_rfl) (by kernel_rfl) (by kernel_rfl) (fun cx ax wx hx => hP2 cx ax _ _ wx hx) (yieldsIf_val (by rfl) (by intro W; go_simp)) h0 ?_
          simp only [List.setIfInBounds_toArray, List.set_cons_zero, List.set_cons_succ]
          refine wpAnyH_done (by kernel_rfl) ?_ _
          go_wp2_with fail
          go_roundw
          case rel => rw [show (i : Int) + 1 = ((i + 1 : Nat) : Int) from by omega]; exact LpRel.drew (LpRel.set2 HKB.out HJ1.out HJ2.out g _ (by rw [HLI.out, ← HV.out]))
          case measure => simp [intOf, ec]; omega
        · have HV : Hid (v = leftV Q.b1 Q.c1 Q.t1 m (i : Int)) := Lib.hid (by have h := HSL.out.1; rw [if_neg e] at h; exact h)
          have dv : decide (v = 2 * Q.c1) = false := decide_eq_false e
          have dw : (v == 2 * Q.c1) = false := beq_eq_false_iff_ne.mpr e
          clear e
          refine wp_region_held_drew (S := fun U => U.cell? ⟨w1.heap.size + 1, i, none⟩ = some (.int .i64 v) ∧ U.cell? ⟨c1, 1, none⟩ = some (.int .i64 Q.c1)) (by kernel_rfl) HS.out (fun h0 => ?_)
          refine hTakeS (i := 0) (k := 199) (v := .int .i64 (i : Int)) rfl rfl (by kernel_rfl) (by kernel_rfl) (by kernel_rfl) (fun cx ax wx hx => hP2 cx ax _ _ wx hx) (yieldsIf_val (by rfl) (by intro W; go_simp)) h0 ?_
          simp only [List.setIfInBounds_toArray, List.set_cons_zero, List.set_cons_succ]
          refine hTakeS (i := 1) (k := 200) (v := .pointer (some ⟨w1.heap.size + 1, i, none⟩)) rfl rfl (by kernel_rfl) (by kernel_rfl) (by kernel_rfl) (fun cx ax wx hx => hP2 cx ax _ _ wx hx) (yieldsIf_val (by rfl) (by intro W; go_simp)) h0 ?_
          simp only [List.setIfInBounds_toArray, List.set_cons_zero, List.set_cons_succ]
          refine hTakeS (i := 2) (k := 201) (v := .int .i64 v) rfl rfl (by kernel_rfl) (by kernel_rfl) (by kernel_rfl) (fun cx ax wx hx => hP2 cx ax _ _ wx hx) (.inl ⟨by rfl, fun W hW => by obtain ⟨b0, b1⟩ := hW; go_simp⟩) h0 ?_
          simp only [List.setIfInBounds_toArray, List.set_cons_zero, List.set_cons_succ]
          refine hTakeS (i := 3) (k := 202) (v := .pointer (some ⟨c1, 1, none⟩)) rfl rfl (by kernel_rfl) (by kernel_rfl) (by kernel_rfl) (fun cx ax wx hx => hP2 cx ax _ _ wx hx) (yieldsIf_val (by rfl) (by intro W; go_simp)) h0 ?_
          simp only [List.setIfInBounds_toArray, List.set_cons_zero, List.set_cons_succ]
          refine hTakeS (i := 4) (k := 203) (v := .int .i64 Q.c1) rfl rfl (by kernel_rfl) (by kernel_rfl) (by kernel_rfl) (fun cx ax wx hx => hP2 cx ax _ _ wx hx) (.inl ⟨by rfl, fun W hW => by obtain ⟨b0, b1⟩ := hW; go_simp⟩) h0 ?_
          simp only [List.setIfInBounds_toArray, List.set_cons_zero, List.set_cons_succ]
          refine hTakeS (i := 5) (k := 204) (v := .int .i64 (2 * Q.c1)) rfl rfl (by kernel_rfl) (by kernel_rfl) (by kernel_rfl) (fun cx ax wx hx => hP2 cx ax _ _ wx hx) (yieldsIf_val (by rfl) (by intro W; go_simp)) h0 ?_
          simp only [List.setIfInBounds_toArray, List.set_cons_zero, List.set_cons_succ]
          refine hTakeS (i := 6) (k := 205) (v := .bool false) rfl rfl (by kernel_rfl) (by kernel_rfl) (by kernel_rfl) (fun cx ax wx hx => hP2 cx ax _ _ wx hx) (yieldsIf_val (by rfl) (by intro W; go_simp)) h0 ?_
          simp only [List.setIfInBounds_toArray, List.set_cons_zero, List.set_cons_succ]
          refine wpAnyH_done (by kernel_rfl) ?_ _
          go_wp2_with fail
          go_roundw
          case rel => rw [show (i : Int) + 1 = ((i + 1 : Nat) : Int) from by omega]; exact LpRel.drew (LpRel.set HKB.out HJ1.out HJ2.out g (by rw [HLI.out, ← HV.out]))
          case measure => simp [intOf, ec]; omega
      · obtain rfl : i = 8 := by omega
        have d0 : decide (((8 : Nat) : Int) < 8) = false := by decide
        go_wp2_with fail
        exact HK.out _ _ _ _ _ _ _ _ _ _ _ _ _ _ _ _ _ _ _ _ _ _ _ _ _ _ _ _ _ _ _ _ ⟨8, rfl, by omega, HB.out, H1.out, H2.out⟩
  · rw [hw] at hQ
    rw [hw]
    have HW := Lib.hid hw
    clear hw
    have HK := Lib.hid hQ
    clear hQ
    conv => arg 2; whnf
    dsimp only
    go_loopw [189] (fun iv wr => LpRel w1 oi l iv wr) (fun iv _ => 8 - (intOf iv).toNat)
    case atStart => exact HC.out
    case round =>
      refine wp_hideP (fun cx ax kx vx wx hx => hP cx ax kx vx wx hx) (fun Q2 hQ2 hP2 => ?_)
      obtain ⟨i, rfl, hi, hb, h1, h2⟩ := hrel
      have HB := Lib.hid hb
      have H1 := Lib.hid h1
      have H2 := Lib.hid h2
      clear hb h1 h2
      rcases Nat.lt_or_ge i 8 with g | g
      · have d0 : decide ((i : Int) < 8) = true := decide_eq_true (by omega)
        have ec : wrap64 ((i : Int) + 1) = ((i + 1 : Nat) : Int) := by unfold wrap64; omega
        have i1 : (0 : Int) ≤ (i : Int) := by omega
        have i2 : (i : Int) < 8 := by omega
        have HX : Hid (inT m) := Lib.hid (by have := HMM.out; unfold inT; omega)
        have HSL := Lib.hid (stay_left HOK.out.c1 HX.out g)
        have HGD := Lib.hid (chk_good HOK.out.c1)
        obtain ⟨v, hv⟩ : ∃ v, rstayV Q.c1 Q.t1 (gone Q.b1 Q.c1 m) i 1 = v := ⟨_, rfl⟩
        have HST : Hid (∀ (W : World) (sl' : Value), TArg W sl' Q.t1 → Calls Try.prog 20 #[LV Q.b1 Q.c1 sl', .int .i64 m, .int .i64 (i : Int), .bool true] W fun e w' => e = .returned (.int .i64 v) ∧ Below W.heap.size W w') := Lib.hid (fun W sl' h => by have := rstay_any i true h HGD.out HX.out g; rw [show oBit true = 1 from rfl, hv] at this; exact this)
        rw [hv] at HSL
        have HPN := Lib.hid (fun W (h : TArg W (.slice lp ln lc) Q.t1) => plain_any (b := Q.b1) (c := Q.c1) h (by have := HGD.out.len; omega))
        clear hv
        obtain ⟨n0, n1, n2⟩ := (HL1.out.below HB.out).cells
        have q1 := o8_cells _ H2.out g
        have q2 := o8_frozen _ H2.out i
        go_upto_region 43 with (first
          | (go_at_call 21; (with_reducible refine (HPN.out _ (HT1.out.below HB.out)).mono ?_); rintro e w2 ⟨sl2, rfl, ht2, hb⟩; have HT2 := Lib.hid ht2; have HB2 := Lib.hid (bTr HB.out hb); have G1 := Lib.hid ((hb.block _ (lt_of_heap H1.out)).trans H1.out); have G2 := Lib.hid ((hb.block _ (lt_of_heap H2.out)).trans H2.out); clear hb ht2)
          | (go_at_call 20; (with_reducible refine (HST.out _ _ HT2.out).mono ?_); rintro e w3 ⟨rfl, hb⟩; have HB3 := Lib.hid (bTr HB2.out hb); have F1 := Lib.hid ((hb.block _ (lt_of_heap G1.out)).trans G1.out); have F2 := Lib.hid ((hb.block _ (lt_of_heap G2.out)).trans G2.out); have q3 := o8_cells _ F2.out g; have q4 := o8_frozen _ F2.out i; clear hb))
        have k2 := o8_set _ F2.out g v
        have k1 : (w3.setCell ⟨w1.heap.size + 1, i, none⟩ (.int .i64 v)).heap[w1.heap.size]? = some oi := (heap_setCell_other w3 ⟨w1.heap.size + 1, i, none⟩ _ _ (by simp)).trans F1.out
        have kb := HB3.out.setCell (p := ⟨w1.heap.size + 1, i, none⟩) (by show w1.heap.size ≤ w1.heap.size + 1; omega) (.int .i64 v)
        generalize (w3.setCell ⟨w1.heap.size + 1, i, none⟩ (.int .i64 v)) = w4 at *
        have t1 := o8_cells _ k2 g
        rw [upd_same] at t1
        have t2 := o8_frozen _ k2 i
        have t3 := ((HL1.out.below kb).cells).2.1
        have HS := Lib.hid (And.intro t1 t3)
        have HKB := Lib.hid kb
        have HJ1 := Lib.hid k1
        have HJ2 := Lib.hid k2
        have HLI : Hid (l i = leftV Q.b1 Q.c1 Q.t1 m (i : Int)) := Lib.hid (by rw [← HL.out]; unfold leftP; rw [HW.out]; rfl)
        have e2c : wrap64 (2 * Q.c1) = 2 * Q.c1 := by have := HGD.out.c0; have := HGD.out.c1; unfold wrap64; omega
        have e2k : IntKind.i64.wrap (2 * Q.c1) = 2 * Q.c1 := by rw [IntKind.wrap_i64]; have := HGD.out.c0; have := HGD.out.c1; omega
        have efm : wrap64 (Q.fr - m) = Q.fr - m := by have := HMM.out; have := HOK.out.f0; have := HOK.out.f1; unfold wrap64; omega
        clear k1 k2 kb n0 n1 n2 q1 q2 q3 q4
        by_cases e : v = 2 * Q.c1
        · have HV : Hid (2147483648 = leftV Q.b1 Q.c1 Q.t1 m (i : Int)) := Lib.hid (by have h := HSL.out.1; rw [if_pos e] at h; exact h)
          have dv : decide (v = 2 * Q.c1) = true := decide_eq_true e
          have dw : (v == 2 * Q.c1) = true := beq_iff_eq.mpr e
          clear e
          refine wp_region_held_drew (S := fun U => U.cell? ⟨w1.heap.size + 1, i, none⟩ = some (.int .i64 v) ∧ U.cell? ⟨c1, 1, none⟩ = some (.int .i64 Q.c1)) (by kernel_rfl) HS.out (fun h0 => ?_)
          refine hTakeS (i := 0) (k := 199) (v := .int .i64 (i : Int)) rfl rfl (by kernel_rfl) (by kernel_rfl) (by kernel_rfl) (fun cx ax wx hx => hP2 cx ax _ _ wx hx) (yieldsIf_val (by rfl) (by intro W; go_simp)) h0 ?_
          simp only [List.setIfInBounds_toArray, List.set_cons_zero, List.set_cons_succ]
          refine hTakeS (i := 1) (k := 200) (v := .pointer (some ⟨w1.heap.size + 1, i, none⟩)) rfl rfl (by kernel_rfl) (by kernel_rfl) (by kernel_rfl) (fun cx ax wx hx => hP2 cx ax _ _ wx hx) (yieldsIf_val (by rfl) (by intro W; go_simp)) h0 ?_
          simp only [List.setIfInBounds_toArray, List.set_cons_zero, List.set_cons_succ]
          refine hTakeS (i := 2) (k := 201) (v := .int .i64 v) rfl rfl (by kernel_rfl) (by kernel_rfl) (by kernel_rfl) (fun cx ax wx hx => hP2 cx ax _ _ wx hx) (.inl ⟨by rfl, fun W hW => by obtain ⟨b0, b1⟩ := hW; go_simp⟩) h0 ?_
          simp only [List.setIfInBounds_toArray, List.set_cons_zero, List.set_cons_succ]
          refine hTakeS (i := 3) (k := 202) (v := .pointer (some ⟨c1, 1, none⟩)) rfl rfl (by kernel_rfl) (by kernel_rfl) (by kernel_rfl) (fun cx ax wx hx => hP2 cx ax _ _ wx hx) (yieldsIf_val (by rfl) (by intro W; go_simp)) h0 ?_
          simp only [List.setIfInBounds_toArray, List.set_cons_zero, List.set_cons_succ]
          refine hTakeS (i := 4) (k := 203) (v := .int .i64 Q.c1) rfl rfl (by kernel_rfl) (by kernel_rfl) (by kernel_rfl) (fun cx ax wx hx => hP2 cx ax _ _ wx hx) (.inl ⟨by rfl, fun W hW => by obtain ⟨b0, b1⟩ := hW; go_simp⟩) h0 ?_
          simp only [List.setIfInBounds_toArray, List.set_cons_zero, List.set_cons_succ]
          refine hTakeS (i := 5) (k := 204) (v := .int .i64 (2 * Q.c1)) rfl rfl (by kernel_rfl) (by kernel_rfl) (by kernel_rfl) (fun cx ax wx hx => hP2 cx ax _ _ wx hx) (yieldsIf_val (by rfl) (by intro W; go_simp)) h0 ?_
          simp only [List.setIfInBounds_toArray, List.set_cons_zero, List.set_cons_succ]
          refine hTakeS (i := 6) (k := 205) (v := .bool true) rfl rfl (by kernel_rfl) (by kernel_rfl) (by kernel_rfl) (fun cx ax wx hx => hP2 cx ax _ _ wx hx) (yieldsIf_val (by rfl) (by intro W; go_simp)) h0 ?_
          simp only [List.setIfInBounds_toArray, List.set_cons_zero, List.set_cons_succ]
          refine wpAnyH_done (by kernel_rfl) ?_ _
          go_wp2_with fail
          go_roundw
          case rel => rw [show (i : Int) + 1 = ((i + 1 : Nat) : Int) from by omega]; exact LpRel.drew (LpRel.set HKB.out HJ1.out HJ2.out g (by rw [HLI.out, ← HV.out]))
          case measure => simp [intOf, ec]; omega
        · have HV : Hid (v = leftV Q.b1 Q.c1 Q.t1 m (i : Int)) := Lib.hid (by have h := HSL.out.1; rw [if_neg e] at h; exact h)
          have dv : decide (v = 2 * Q.c1) = false := decide_eq_false e
          have dw : (v == 2 * Q.c1) = false := beq_eq_false_iff_ne.mpr e
          clear e
          refine wp_region_held_drew (S := fun U => U.cell? ⟨w1.heap.size + 1, i, none⟩ = some (.int .i64 v) ∧ U.cell? ⟨c1, 1, none⟩ = some (.int .i64 Q.c1)) (by kernel_rfl) HS.out (fun h0 => ?_)
          refine hTakeS (i := 0) (k := 199) (v := .int .i64 (i : Int)) rfl rfl (by kernel_rfl) (by kernel_rfl) (by kernel_rfl) (fun cx ax wx hx => hP2 cx ax _ _ wx hx) (yieldsIf_val (by rfl) (by intro W; go_simp)) h0 ?_
          simp only [List.setIfInBounds_toArray, List.set_cons_zero, List.set_cons_succ]
          refine hTakeS (i := 1) (k := 200) (v := .pointer (some ⟨w1.heap.size + 1, i, none⟩)) rfl rfl (by kernel_rfl) (by kernel_rfl) (by kernel_rfl) (fun cx ax wx hx => hP2 cx ax _ _ wx hx) (yieldsIf_val (by rfl) (by intro W; go_simp)) h0 ?_
          simp only [List.setIfInBounds_toArray, List.set_cons_zero, List.set_cons_succ]
          refine hTakeS (i := 2) (k := 201) (v := .int .i64 v) rfl rfl (by kernel_rfl) (by kernel_rfl) (by kernel_rfl) (fun cx ax wx hx => hP2 cx ax _ _ wx hx) (.inl ⟨by rfl, fun W hW => by obtain ⟨b0, b1⟩ := hW; go_simp⟩) h0 ?_
          simp only [List.setIfInBounds_toArray, List.set_cons_zero, List.set_cons_succ]
          refine hTakeS (i := 3) (k := 202) (v := .pointer (some ⟨c1, 1, none⟩)) rfl rfl (by kernel_rfl) (by kernel_rfl) (by kernel_rfl) (fun cx ax wx hx => hP2 cx ax _ _ wx hx) (yieldsIf_val (by rfl) (by intro W; go_simp)) h0 ?_
          simp only [List.setIfInBounds_toArray, List.set_cons_zero, List.set_cons_succ]
          refine hTakeS (i := 4) (k := 203) (v := .int .i64 Q.c1) rfl rfl (by kernel_rfl) (by kernel_rfl) (by kernel_rfl) (fun cx ax wx hx => hP2 cx ax _ _ wx hx) (.inl ⟨by rfl, fun W hW => by obtain ⟨b0, b1⟩ := hW; go_simp⟩) h0 ?_
          simp only [List.setIfInBounds_toArray, List.set_cons_zero, List.set_cons_succ]
          refine hTakeS (i := 5) (k := 204) (v := .int .i64 (2 * Q.c1)) rfl rfl (by kernel_rfl) (by kernel_rfl) (by kernel_rfl) (fun cx ax wx hx => hP2 cx ax _ _ wx hx) (yieldsIf_val (by rfl) (by intro W; go_simp)) h0 ?_
          simp only [List.setIfInBounds_toArray, List.set_cons_zero, List.set_cons_succ]
          refine hTakeS (i := 6) (k := 205) (v := .bool false) rfl rfl (by kernel_rfl) (by kernel_rfl) (by kernel_rfl) (fun cx ax wx hx => hP2 cx ax _ _ wx hx) (yieldsIf_val (by rfl) (by intro W; go_simp)) h0 ?_
          simp only [List.setIfInBounds_toArray, List.set_cons_zero, List.set_cons_succ]
          refine wpAnyH_done (by kernel_rfl) ?_ _
          go_wp2_with fail
          go_roundw
          case rel => rw [show (i : Int) + 1 = ((i + 1 : Nat) : Int) from by omega]; exact LpRel.drew (LpRel.of HKB.out HJ1.out HJ2.out g (by rw [HLI.out, ← HV.out]))
          case measure => simp [intOf, ec]; omega
      · obtain rfl : i = 8 := by omega
        have d0 : decide (((8 : Nat) : Int) < 8) = false := by decide
        go_wp2_with fail
        exact HK.out _ _ _ _ _ _ _ _ _ _ _ _ _ _ _ _ _ _ _ _ _ _ _ _ _ _ _ _ _ _ _ _ ⟨8, rfl, by omega, HB.out, H1.out, H2.out⟩

end Go.Proofs.Ytlpijhopllhccaa
