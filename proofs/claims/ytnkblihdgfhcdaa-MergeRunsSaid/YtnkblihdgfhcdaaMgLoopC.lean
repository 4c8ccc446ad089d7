/- MergeRuns, the great loop's round in declarations of its own: frames that are taken on their way. Written by gen_mgloop.py. -/
import Derived.Test.YtnkblihdgfhcdaaMgLoopA
import Derived.Deep.CutRange
namespace Go.Proofs.Ytnkblihdgfhcdaa
open Go.RowKit Go.Joins

set_option maxRecDepth 1000000 in
set_option maxHeartbeats 16000000 in
theorem round_taken {w wr : World} {b lo hi g qa vn vc : Nat} {w1 l1 r1 w2 l2 r2 every limit : Int} {M : MG} {rs : Nat → RQ} {vs : Nat → Value} {ra : RQ} {va : Value} {N c k ab o : Nat} {next passed again silent : Int} {z0 : Bool} {z1 z2 z3 : Int} {Q0 : Exit → Act → World → Prop}
    {L0 L1 L2 u6 L8 L12 u19 u20 u21 u22 u23 u24 u25 u26 u27 u28 u29 u30 L32 L33 L34 L35 L36 L37 L38 L39 L40 L41 L42 L43 L44 L45 L46 L47 L48 L49 L50 L51 L52 L53 L89 L90 L91 L92 L93 L94 L95 L96 L97 L98 L99 L100 L101 L102 L103 L104 L105 L106 L107 L108 L109 L110 L111 L112 L113 L114 L115 L116 L117 L118 L119 L120 L121 L122 L123 L124 L125 L126 u130 u131 u132 u133 u134 u135 u136 u137 u138 u139 u140 u141 u142 u143 u144 u145 u146 u147 u148 u149 u150 u151 u152 u153 u154 u155 u156 u157 u158 u159 u160 u161 u162 u163 u164 u165 u166 u167 u168 u169 u170 u171 u172 u173 u174 u175 u176 u177 u178 u179 u180 u181 u182 u183 u184 u185 u186 u187 u188 u189 u190 u191 u192 u193 u194 u195 u196 u197 u198 u199 u200 u201 u202 u203 u204 u205 u206 u207 u208 u209 u210 u211 u212 u213 u214 u215 u216 u217 u218 u219 u220 u221 u222 u223 u224 u225 u226 u227 u228 u229 u230 u231 u232 u233 u234 u235 u236 u237 u238 u239 u240 u241 u242 u243 u244 u245 u246 u247 u248 u249 u250 u251 u252 u253 u254 u255 u256 u257 u258 u259 : Value}
    (HS : Hid (GS w b lo hi g qa ⟨vn, w1, l1, r1, w2, l2, r2, every, limit⟩ M rs vs ra va wr)) (HP : Hid (GP ⟨vn, w1, l1, r1, w2, l2, r2, every, limit⟩ k M rs ra next passed again silent)) (g2 : k < N) (hn100 : N ≤ 100)
    (c0 : wr.cell? ⟨ab, o + k * 4, none⟩ = some (.bool z0)) (c1 : wr.cell? ⟨ab, o + k * 4 + 1, none⟩ = some (.int .i64 z1)) (c2 : wr.cell? ⟨ab, o + k * 4 + 2, none⟩ = some (.int .i64 z2)) (c3 : wr.cell? ⟨ab, o + k * 4 + 3, none⟩ = some (.int .i64 z3)) (b1 : In64 z1) (b2 : In64 z2) (b3 : In64 z3)
    (hQ0 : ∀ cx (ax : Act) (kx : Nat) (vx : Value) (wx : World), Q0 (.panic cx) (ax.put (some kx) vx) wx → Q0 (.panic cx) ax wx) (y : Nat) (hy : z2 = (y : Int)) (hz : z0 = false) (hyn : y < vn) (hta0 : 0 ≤ z3) (hta1 : z3 < 65536) (hta : taken ((M.ones y).told z1 z3)) :
    Code.wp Try.prog gbody (Exit.then (fun a' w' => (∃ u6 u14 u15 u16 u17 u19 u20 u21 u22 u23 u24 u25 u26 u27 u28 u29 u30 u129 u130 u131 u132 u133 u134 u135 u136 u137 u138 u139 u140 u141 u142 u143 u144 u145 u146 u147 u148 u149 u150 u151 u152 u153 u154 u155 u156 u157 u158 u159 u160 u161 u162 u163 u164 u165 u166 u167 u168 u169 u170 u171 u172 u173 u174 u175 u176 u177 u178 u179 u180 u181 u182 u183 u184 u185 u186 u187 u188 u189 u190 u191 u192 u193 u194 u195 u196 u197 u198 u199 u200 u201 u202 u203 u204 u205 u206 u207 u208 u209 u210 u211 u212 u213 u214 u215 u216 u217 u218 u219 u220 u221 u222 u223 u224 u225 u226 u227 u228 u229 u230 u231 u232 u233 u234 u235 u236 u237 u238 u239 u240 u241 u242 u243 u244 u245 u246 u247 u248 u249 u250 u251 u252 u253 u254 u255 u256 u257 u258 u259 : Value, GRel w b lo hi g qa ⟨vn, w1, l1, r1, w2, l2, r2, every, limit⟩ N u14 u15 u16 u17 u129 w' ∧ a' = ⟨#[L0, L1, L2, .pointer (some ⟨w.heap.size, 0, none⟩), undef, undef, u6, .pointer (some ⟨b, 0, none⟩), L8, undef, undef, .slice (some ⟨g, 0, none⟩) vn vc, L12, .pointer (some ⟨qa, 0, none⟩), u14, u15, u16, u17, undef, u19, u20, u21, u22, u23, u24, u25, u26, u27, u28, u29, u30, undef, L32, L33, L34, L35, L36, L37, L38, L39, L40, L41, L42, L43, L44, L45, L46, L47, L48, L49, L50, L51, L52, L53, undef, undef, undef, undef, undef, undef, undef, undef, undef, undef, undef, undef, undef, undef, undef, undef, undef, undef, undef, undef, undef, undef, undef, undef, undef, undef, undef, undef, undef, undef, undef, undef, undef, undef, undef, L89, L90, L91, L92, L93, L94, L95, L96, L97, L98, L99, L100, L101, L102, L103, L104, L105, L106, L107, L108, L109, L110, L111, L112, L113, L114, L115, L116, L117, L118, L119, L120, L121, L122, L123, L124, L125, L126, .slice (some ⟨ab, o, none⟩) N c, .int .i64 (N : Int), u129, u130, u131, u132, u133, u134, u135, u136, u137, u138, u139, u140, u141, u142, u143, u144, u145, u146, u147, u148, u149, u150, u151, u152, u153, u154, u155, u156, u157, u158, u159, u160, u161, u162, u163, u164, u165, u166, u167, u168, u169, u170, u171, u172, u173, u174, u175, u176, u177, u178, u179, u180, u181, u182, u183, u184, u185, u186, u187, u188, u189, u190, u191, u192, u193, u194, u195, u196, u197, u198, u199, u200, u201, u202, u203, u204, u205, u206, u207, u208, u209, u210, u211, u212, u213, u214, u215, u216, u217, u218, u219, u220, u221, u222, u223, u224, u225, u226, u227, u228, u229, u230, u231, u232, u233, u234, u235, u236, u237, u238, u239, u240, u241, u242, u243, u244, u245, u246, u247, u248, u249, u250, u251, u252, u253, u254, u255, u256, u257, u258, u259, undef, undef, undef, undef, undef, undef, undef, undef, undef, undef, undef, undef, undef, undef, undef, undef, undef, undef, undef, undef, undef, undef, undef, undef, undef, undef, undef, undef, undef, undef, undef, undef, undef, undef, undef, undef, undef, undef, undef, undef, undef, undef, undef], []⟩) ∧ N - (intOf (a'.tmps.getD 129 undef)).toNat < N - (intOf (#[L0, L1, L2, .pointer (some ⟨w.heap.size, 0, none⟩), undef, undef, u6, .pointer (some ⟨b, 0, none⟩), L8, undef, undef, .slice (some ⟨g, 0, none⟩) vn vc, L12, .pointer (some ⟨qa, 0, none⟩), .int .i64 next, .int .i64 passed, .int .i64 again, .int .i64 silent, undef, u19, u20, u21, u22, u23, u24, u25, u26, u27, u28, u29, u30, undef, L32, L33, L34, L35, L36, L37, L38, L39, L40, L41, L42, L43, L44, L45, L46, L47, L48, L49, L50, L51, L52, L53, undef, undef, undef, undef, undef, undef, undef, undef, undef, undef, undef, undef, undef, undef, undef, undef, undef, undef, undef, undef, undef, undef, undef, undef, undef, undef, undef, undef, undef, undef, undef, undef, undef, undef, undef, L89, L90, L91, L92, L93, L94, L95, L96, L97, L98, L99, L100, L101, L102, L103, L104, L105, L106, L107, L108, L109, L110, L111, L112, L113, L114, L115, L116, L117, L118, L119, L120, L121, L122, L123, L124, L125, L126, .slice (some ⟨ab, o, none⟩) N c, .int .i64 (N : Int), .int .i64 (k : Int), u130, u131, u132, u133, u134, u135, u136, u137, u138, u139, u140, u141, u142, u143, u144, u145, u146, u147, u148, u149, u150, u151, u152, u153, u154, u155, u156, u157, u158, u159, u160, u161, u162, u163, u164, u165, u166, u167, u168, u169, u170, u171, u172, u173, u174, u175, u176, u177, u178, u179, u180, u181, u182, u183, u184, u185, u186, u187, u188, u189, u190, u191, u192, u193, u194, u195, u196, u197, u198, u199, u200, u201, u202, u203, u204, u205, u206, u207, u208, u209, u210, u211, u212, u213, u214, u215, u216, u217, u218, u219, u220, u221, u222, u223, u224, u225, u226, u227, u228, u229, u230, u231, u232, u233, u234, u235, u236, u237, u238, u239, u240, u241, u242, u243, u244, u245, u246, u247, u248, u249, u250, u251, u252, u253, u254, u255, u256, u257, u258, u259, undef, undef, undef, undef, undef, undef, undef, undef, undef, undef, undef, undef, undef, undef, undef, undef, undef, undef, undef, undef, undef, undef, undef, undef, undef, undef, undef, undef, undef, undef, undef, undef, undef, undef, undef, undef, undef, undef, undef, undef, undef, undef, undef].getD 129 undef)).toNat) Q0) ⟨#[L0, L1, L2, .pointer (some ⟨w.heap.size, 0, none⟩), undef, undef, u6, .pointer (some ⟨b, 0, none⟩), L8, undef, undef, .slice (some ⟨g, 0, none⟩) vn vc, L12, .pointer (some ⟨qa, 0, none⟩), .int .i64 next, .int .i64 passed, .int .i64 again, .int .i64 silent, undef, u19, u20, u21, u22, u23, u24, u25, u26, u27, u28, u29, u30, undef, L32, L33, L34, L35, L36, L37, L38, L39, L40, L41, L42, L43, L44, L45, L46, L47, L48, L49, L50, L51, L52, L53, undef, undef, undef, undef, undef, undef, undef, undef, undef, undef, undef, undef, undef, undef, undef, undef, undef, undef, undef, undef, undef, undef, undef, undef, undef, undef, undef, undef, undef, undef, undef, undef, undef, undef, undef, L89, L90, L91, L92, L93, L94, L95, L96, L97, L98, L99, L100, L101, L102, L103, L104, L105, L106, L107, L108, L109, L110, L111, L112, L113, L114, L115, L116, L117, L118, L119, L120, L121, L122, L123, L124, L125, L126, .slice (some ⟨ab, o, none⟩) N c, .int .i64 (N : Int), .int .i64 (k : Int), u130, u131, u132, u133, u134, u135, u136, u137, u138, u139, u140, u141, u142, u143, u144, u145, u146, u147, u148, u149, u150, u151, u152, u153, u154, u155, u156, u157, u158, u159, u160, u161, u162, u163, u164, u165, u166, u167, u168, u169, u170, u171, u172, u173, u174, u175, u176, u177, u178, u179, u180, u181, u182, u183, u184, u185, u186, u187, u188, u189, u190, u191, u192, u193, u194, u195, u196, u197, u198, u199, u200, u201, u202, u203, u204, u205, u206, u207, u208, u209, u210, u211, u212, u213, u214, u215, u216, u217, u218, u219, u220, u221, u222, u223, u224, u225, u226, u227, u228, u229, u230, u231, u232, u233, u234, u235, u236, u237, u238, u239, u240, u241, u242, u243, u244, u245, u246, u247, u248, u249, u250, u251, u252, u253, u254, u255, u256, u257, u258, u259, undef, undef, undef, undef, undef, undef, undef, undef, undef, undef, undef, undef, undef, undef, undef, undef, undef, undef, undef, undef, undef, undef, undef, undef, undef, undef, undef, undef, undef, undef, undef, undef, undef, undef, undef, undef, undef, undef, undef, undef, undef, undef, undef], []⟩ wr := by
  have hd2 : decide ((k : Int) < (N : Int)) = true := decide_eq_true (by omega)
  have HS1 := Lib.hid (HS.out.below (bAl (bRef wr) (.cells #[.bool z0, .int .i64 z1, .int .i64 z2, .int .i64 z3] 70)))
  obtain ⟨m0, m1, m2, m3, m4, m5, m6, m7, m8⟩ := HS1.out.cf.cells
  simp only at m0 m1 m2 m3 m4 m5 m6 m7 m8
  conv => arg 2; whnf
  subst hz
  subst hy
  have hw : True := trivial
  have hP := HP.out.n_
  simp only at hP
  have v1 : decide ((y : Int) < 0) = false := decide_eq_false (by omega)
  have v2 : decide ((vn : Int) ≤ (y : Int)) = false := decide_eq_false (by omega)
  have v3 : (0 : Int) ≤ (y : Int) := by omega
  have v4 : (y : Int) < (vn : Int) := by omega
  have HYN := Lib.hid hyn
  obtain ⟨py, cy, ey⟩ := (HS1.out.row.la y hyn).slice
  have key : ∃ (T f : Int) (M2 : MG) (m2 : SQ) (okv : Bool), (∀ W, Mg W b lo hi M → Calls Try.prog 30 #[.pointer (some ⟨b, 0, none⟩), .int .i64 z1, .int .i64 (y : Int), .int .i64 z3] W fun e w' => e = .returned (.tuple #[.bool okv, .int .i64 f]) ∧ Mg w' b lo hi M2 ∧ ButI lo hi W w') ∧
                    (∀ W, LA W (.slice py (rs y).had.length cy) (rs y).had → ∃ rr, Calls Try.prog 24 #[RV (rs y) (.slice py (rs y).had.length cy), .int .i64 z1, .int .i64 z3] W (InPost W rr T f) ∧ RR m2 rr ∧ rr.had.length ≤ (rs y).had.length + 1) ∧
                    ((f = 1 ∧ (z3 < 0 ∨ 65535 < z3) ∧ okv = false ∧ M2 = M ∧ m2 = M.ones y) ∨ (f = 0 ∧ 0 ≤ z3 ∧ z3 < 65536 ∧ M2 = M.into z1 y z3 ∧ m2 = (M.ones y).into z1 z3 ∧ T = (M.ones y).told z1 z3 ∧ okv = decide (M.told z1 y z3))) := by
    by_cases hs : z3 < 0 ∨ 65535 < z3
    · refine ⟨2, 1, M, M.ones y, false, fun W hW => (min_bad hW z1 z3 y (by rw [hP]; exact hyn) (by omega)).mono fun e w' ⟨h1, h2⟩ => ⟨h1, by rw [h2]; exact hW, by rw [h2]; exact ButI.refl _ _ _⟩, fun W hW => ⟨rs y, rin_bad (rs y) py _ cy z1 z3 W hW hs, (HP.out.one y hyn).1, by omega⟩, .inl ⟨rfl, hs, rfl, rfl, rfl⟩⟩
    · have hg := HP.out.good
      have hl := (HP.out.one y hyn).2
      refine ⟨(M.ones y).told z1 z3, 0, M.into z1 y z3, (M.ones y).into z1 z3, decide (M.told z1 y z3), fun W hW => min_ok hW hg z1 z3 y (by rw [hP]; exact hyn) b1.1 b1.2 (by omega) (by omega), fun W hW => rin_any (now := z1) (seq := z3) (HP.out.one y hyn).1 (hg.ones y (by rw [hP]; exact hyn)) py _ cy W hW (by omega) b1.1 b1.2 (by omega) (by omega), .inr ⟨rfl, by omega, by omega, rfl, rfl, rfl, rfl⟩⟩
  obtain ⟨T, f, M2, m2, okv, hin, hrf, hway⟩ := key
  have HIn := Lib.hid hin
  have HRf := Lib.hid hrf
  have HWay := Lib.hid hway
  have HE := Lib.hid ey
  have HZ := Lib.hid b1
  obtain ⟨pa, ca, rfl⟩ := HS.out.la.slice
  have HST1 : Hid (StepB (wr.alloc (.cells #[.bool false, .int .i64 z1, .int .i64 (y : Int), .int .i64 z3] 70)) wr.heap.size false z1 (y : Int) z3) := Lib.hid (heap_alloc_one' wr _)
  have HLT := Lib.hid (show hi ≤ wr.heap.size from by have h2 := HS.out.h2; have h3 := HS.out.row.lt; omega)
  clear b1 b2 b3 hw hP hyn ey hin hrf hway
  go_upto_region 39 with (go_at_call 30; (with_reducible refine (HIn.out _ HS1.out.mg).mono ?_); rintro e x6 ⟨rfl, hm, hb⟩; have HS6 : Hid (S39 w b lo hi g qa ⟨vn, w1, l1, r1, w2, l2, r2, every, limit⟩ M2 rs vs ra (.slice pa ra.had.length ca) wr.heap.size z1 (y : Int) z3 x6) := Lib.hid ⟨HS1.out.inI hm hb, (hb.block _ HST1.out.lt (.inr HLT.out)).trans HST1.out⟩; obtain ⟨n0, n1, n2, n3⟩ := HS6.out.2.cells; obtain ⟨q0, q1, q2, q3, q4, q5, q6, q7, q8⟩ := HS6.out.1.cf.cells; simp only at q0; clear hm hb q1 q2 q3 q4 q5 q6 q7 q8)
  go_cut [24, 25, 26] from 130 to 259 (fun q24 q25 q26 wx => Mid39 w b lo hi g qa ⟨vn, w1, l1, r1, w2, l2, r2, every, limit⟩ M2 rs vs ra (.slice pa ra.had.length ca) wr.heap.size z1 (y : Int) z3 (fun rr => RR m2 rr ∧ rr.had.length ≤ (rs y).had.length + 1) T f q24 q25 q26 wx)
  case first =>
    refine wp_region_held_drew (S := (S39 w b lo hi g qa ⟨vn, w1, l1, r1, w2, l2, r2, every, limit⟩ M2 rs vs ra (.slice pa ra.had.length ca) wr.heap.size z1 (y : Int) z3)) (by kernel_rfl) (HS6.out.below (bDr1 (bRef _))) (fun h0 => ?_)
    refine hTake (i := 0) (k := 199) (v := .slice (some ⟨g, 0, none⟩) vn vc) rfl rfl (by kernel_rfl) (by kernel_rfl) (by kernel_rfl) (fun cx ax wx hx => hQ0 cx ax _ _ wx hx) (yieldsIf_val (by rfl) (by intro W; go_simp)) h0 ?_
    simp only [List.setIfInBounds_toArray, List.set_cons_zero, List.set_cons_succ]
    refine hTake (i := 1) (k := 200) (v := .pointer (some ⟨wr.heap.size, 2, none⟩)) rfl rfl (by kernel_rfl) (by kernel_rfl) (by kernel_rfl) (fun cx ax wx hx => hQ0 cx ax _ _ wx hx) (yieldsIf_val (by rfl) (by intro W; go_simp)) h0 ?_
    simp only [List.setIfInBounds_toArray, List.set_cons_zero, List.set_cons_succ]
    refine hTake (i := 2) (k := 201) (v := .int .i64 (y : Int)) rfl rfl (by kernel_rfl) (by kernel_rfl) (by kernel_rfl) (fun cx ax wx hx => hQ0 cx ax _ _ wx hx) (.inl ⟨by rfl, fun W hW => by obtain ⟨c0, c1, c2, c3⟩ := hW.2.cells; go_simp⟩) h0 ?_
    simp only [List.setIfInBounds_toArray, List.set_cons_zero, List.set_cons_succ]
    refine hTake (i := 3) (k := 202) (v := .pointer (some ⟨g, y * 13, none⟩)) rfl rfl (by kernel_rfl) (by kernel_rfl) (by kernel_rfl) (fun cx ax wx hx => hQ0 cx ax _ _ wx hx) (yieldsIf_val (by rfl) (by intro W; go_simp)) h0 ?_
    simp only [List.setIfInBounds_toArray, List.set_cons_zero, List.set_cons_succ]
    refine hTake (i := 4) (k := 203) (v := RV (rs y) (.slice py (rs y).had.length cy)) rfl rfl (by kernel_rfl) (by kernel_rfl) (by kernel_rfl) (fun cx ax wx hx => hQ0 cx ax _ _ wx hx) (yieldsIf_load_mid (by rfl) 39 (.tmp 202) rfl g (y * 13) rfl (RA (rs y) (.slice py (rs y).had.length cy)).toList _ (fun W hW => by rw [← HE.out]; exact hW.1.row.at_ y HYN.out) Try.underlying39 rfl (by kernel_rfl)) h0 ?_
    simp only [List.setIfInBounds_toArray, List.set_cons_zero, List.set_cons_succ]
    refine hTake (i := 5) (k := 204) (v := .pointer (some ⟨wr.heap.size, 1, none⟩)) rfl rfl (by kernel_rfl) (by kernel_rfl) (by kernel_rfl) (fun cx ax wx hx => hQ0 cx ax _ _ wx hx) (yieldsIf_val (by rfl) (by intro W; go_simp)) h0 ?_
    simp only [List.setIfInBounds_toArray, List.set_cons_zero, List.set_cons_succ]
    refine hTake (i := 6) (k := 205) (v := .int .i64 z1) rfl rfl (by kernel_rfl) (by kernel_rfl) (by kernel_rfl) (fun cx ax wx hx => hQ0 cx ax _ _ wx hx) (.inl ⟨by rfl, fun W hW => by obtain ⟨c0, c1, c2, c3⟩ := hW.2.cells; go_simp⟩) h0 ?_
    simp only [List.setIfInBounds_toArray, List.set_cons_zero, List.set_cons_succ]
    refine hTake (i := 7) (k := 206) (v := .pointer (some ⟨wr.heap.size, 3, none⟩)) rfl rfl (by kernel_rfl) (by kernel_rfl) (by kernel_rfl) (fun cx ax wx hx => hQ0 cx ax _ _ wx hx) (yieldsIf_val (by rfl) (by intro W; go_simp)) h0 ?_
    simp only [List.setIfInBounds_toArray, List.set_cons_zero, List.set_cons_succ]
    refine hTake (i := 8) (k := 207) (v := .int .i64 z3) rfl rfl (by kernel_rfl) (by kernel_rfl) (by kernel_rfl) (fun cx ax wx hx => hQ0 cx ax _ _ wx hx) (.inl ⟨by rfl, fun W hW => by obtain ⟨c0, c1, c2, c3⟩ := hW.2.cells; go_simp⟩) h0 ?_
    simp only [List.setIfInBounds_toArray, List.set_cons_zero, List.set_cons_succ]
    obtain ⟨rr, hcall, hprr⟩ := HRf.out _ (by rw [← HE.out]; exact h0.1.row.la y HYN.out)
    refine hCallOr (i := 9) (j := 14) (k := 208) (m := 24) (by kernel_rfl) rfl rfl rfl rfl (by rfl) (by rfl) 24 #[RV (rs y) (.slice py (rs y).had.length cy), .int .i64 z1, .int .i64 z3] (by go_simp) hcall (alloc_op rfl _) (h0.below (bAl (bRef _) _)) ?_ ?_
    · rintro e W7 ⟨v, rfl, hla, hb⟩
      have h7 := h0.below hb
      refine ⟨_, rfl, h7, ?_⟩
      obtain ⟨pv, cv, rfl⟩ := hla.slice
      simp only [List.setIfInBounds_toArray, List.set_cons_zero, List.set_cons_succ]
      refine hTake (i := 10) (k := 198) (v := .tuple #[RV rr (.slice pv rr.had.length cv), .int .i64 T, .int .i64 f]) rfl rfl (by kernel_rfl) (by kernel_rfl) (by kernel_rfl) (fun cx ax wx hx => hQ0 cx ax _ _ wx hx) (yieldsIf_val (by rfl) (by intro W; go_simp)) h7 ?_
      simp only [List.setIfInBounds_toArray, List.set_cons_zero, List.set_cons_succ]
      refine hTake (i := 11) (k := 209) (v := RV rr (.slice pv rr.had.length cv)) rfl rfl (by kernel_rfl) (by kernel_rfl) (by kernel_rfl) (fun cx ax wx hx => hQ0 cx ax _ _ wx hx) (yieldsIf_val (by rfl) (by intro W; go_simp)) h7 ?_
      simp only [List.setIfInBounds_toArray, List.set_cons_zero, List.set_cons_succ]
      refine hTake (i := 12) (k := 210) (v := .int .i64 T) rfl rfl (by kernel_rfl) (by kernel_rfl) (by kernel_rfl) (fun cx ax wx hx => hQ0 cx ax _ _ wx hx) (yieldsIf_val (by rfl) (by intro W; go_simp)) h7 ?_
      simp only [List.setIfInBounds_toArray, List.set_cons_zero, List.set_cons_succ]
      refine hTake (i := 13) (k := 211) (v := .int .i64 f) rfl rfl (by kernel_rfl) (by kernel_rfl) (by kernel_rfl) (fun cx ax wx hx => hQ0 cx ax _ _ wx hx) (yieldsIf_val (by rfl) (by intro W; go_simp)) h7 ?_
      simp only [List.setIfInBounds_toArray, List.set_cons_zero, List.set_cons_succ]
      have hbx : RB (W7.alloc (.cells (RA rz (.slice none 0 0)) 39)) W7.heap.size rz (.slice none 0 0) := heap_alloc_one' _ _
      have h8 := h7.below (bAl (bRef _) (.cells (RA rz (.slice none 0 0)) 39))
      refine hOneS (i := 14) (k := 24) (by kernel_rfl) rfl rfl (by rfl) (alloc_op rfl _) h8 ?_
      simp only [List.setIfInBounds_toArray, List.set_cons_zero, List.set_cons_succ]
      have h10 := h8.setX hbx (show qa < W7.heap.size from h7.1.box.lt) (show wr.heap.size < W7.heap.size from h7.2.lt) rr (.slice pv rr.had.length cv)
      refine hOneNS (i := 15) (by kernel_rfl) rfl rfl (by rfl) (store_op (.tmp 24) (.tmp 209) rfl W7.heap.size rr _ pv _ cv _ rfl rfl hbx) h10 ?_
      refine hTake (i := 16) (k := 25) (v := .int .i64 T) rfl rfl (by kernel_rfl) (by kernel_rfl) (by kernel_rfl) (fun cx ax wx hx => hQ0 cx ax _ _ wx hx) (yieldsIf_val (by rfl) (by intro W; go_simp)) h10 ?_
      simp only [List.setIfInBounds_toArray, List.set_cons_zero, List.set_cons_succ]
      refine hTake (i := 17) (k := 26) (v := .int .i64 f) rfl rfl (by kernel_rfl) (by kernel_rfl) (by kernel_rfl) (fun cx ax wx hx => hQ0 cx ax _ _ wx hx) (yieldsIf_val (by rfl) (by intro W; go_simp)) h10 ?_
      simp only [List.setIfInBounds_toArray, List.set_cons_zero, List.set_cons_succ]
      refine wpAnyH_done (by kernel_rfl) ?_ _
      go_wp2_with fail
      go_meet
      exact h8.ends hbx (show qa < W7.heap.size from h7.1.box.lt) (show wr.heap.size < W7.heap.size from h7.2.lt) (hla.below (bAl (bRef _) _)) hprr
    · have h9 := h0.below (bAl (bRef _) (.cells (RA rz (.slice none 0 0)) 39))
      obtain ⟨rr, hcall, hprr⟩ := HRf.out _ (by rw [← HE.out]; exact h9.1.row.la y HYN.out)
      simp only [List.setIfInBounds_toArray, List.set_cons_zero, List.set_cons_succ]
      refine hCallR (i := 9) (k := 208) (by kernel_rfl) rfl rfl (by rfl) 24 #[RV (rs y) (.slice py (rs y).had.length cy), .int .i64 z1, .int .i64 z3] (by go_simp) hcall ?_
      rintro e W7 ⟨v, rfl, hla, hb⟩
      have h7 := h9.below hb
      have hbx : RB W7 x6.drew.heap.size rz (.slice none 0 0) := (hb.block _ (by simp)).trans (heap_alloc_one' _ _)
      refine ⟨_, rfl, h7, ?_⟩
      obtain ⟨pv, cv, rfl⟩ := hla.slice
      simp only [List.setIfInBounds_toArray, List.set_cons_zero, List.set_cons_succ]
      refine hTake (i := 10) (k := 198) (v := .tuple #[RV rr (.slice pv rr.had.length cv), .int .i64 T, .int .i64 f]) rfl rfl (by kernel_rfl) (by kernel_rfl) (by kernel_rfl) (fun cx ax wx hx => hQ0 cx ax _ _ wx hx) (yieldsIf_val (by rfl) (by intro W; go_simp)) h7 ?_
      simp only [List.setIfInBounds_toArray, List.set_cons_zero, List.set_cons_succ]
      refine hTake (i := 11) (k := 209) (v := RV rr (.slice pv rr.had.length cv)) rfl rfl (by kernel_rfl) (by kernel_rfl) (by kernel_rfl) (fun cx ax wx hx => hQ0 cx ax _ _ wx hx) (yieldsIf_val (by rfl) (by intro W; go_simp)) h7 ?_
      simp only [List.setIfInBounds_toArray, List.set_cons_zero, List.set_cons_succ]
      refine hTake (i := 12) (k := 210) (v := .int .i64 T) rfl rfl (by kernel_rfl) (by kernel_rfl) (by kernel_rfl) (fun cx ax wx hx => hQ0 cx ax _ _ wx hx) (yieldsIf_val (by rfl) (by intro W; go_simp)) h7 ?_
      simp only [List.setIfInBounds_toArray, List.set_cons_zero, List.set_cons_succ]
      refine hTake (i := 13) (k := 211) (v := .int .i64 f) rfl rfl (by kernel_rfl) (by kernel_rfl) (by kernel_rfl) (fun cx ax wx hx => hQ0 cx ax _ _ wx hx) (yieldsIf_val (by rfl) (by intro W; go_simp)) h7 ?_
      simp only [List.setIfInBounds_toArray, List.set_cons_zero, List.set_cons_succ]
      have h10 := h7.setX hbx (show qa < x6.drew.heap.size from h0.1.box.lt) (show wr.heap.size < x6.drew.heap.size from h0.2.lt) rr (.slice pv rr.had.length cv)
      refine hOneNS (i := 15) (by kernel_rfl) rfl rfl (by rfl) (store_op (.tmp 24) (.tmp 209) rfl x6.drew.heap.size rr _ pv _ cv _ rfl rfl hbx) h10 ?_
      refine hTake (i := 16) (k := 25) (v := .int .i64 T) rfl rfl (by kernel_rfl) (by kernel_rfl) (by kernel_rfl) (fun cx ax wx hx => hQ0 cx ax _ _ wx hx) (yieldsIf_val (by rfl) (by intro W; go_simp)) h10 ?_
      simp only [List.setIfInBounds_toArray, List.set_cons_zero, List.set_cons_succ]
      refine hTake (i := 17) (k := 26) (v := .int .i64 f) rfl rfl (by kernel_rfl) (by kernel_rfl) (by kernel_rfl) (fun cx ax wx hx => hQ0 cx ax _ _ wx hx) (yieldsIf_val (by rfl) (by intro W; go_simp)) h10 ?_
      simp only [List.setIfInBounds_toArray, List.set_cons_zero, List.set_cons_succ]
      refine wpAnyH_done (by kernel_rfl) ?_ _
      go_wp2_with fail
      go_meet
      exact h7.ends hbx (show qa < x6.drew.heap.size from h0.1.box.lt) (show wr.heap.size < x6.drew.heap.size from h0.2.lt) hla hprr
  case rest =>
    obtain ⟨rr, v, bx, rfl, rfl, rfl, hla, hbx, hgs, hst, hlt, hrr, hrl⟩ := hcut
    obtain ⟨pv, cv, rfl⟩ := hla.slice
    have HLA := Lib.hid hla
    have HBX := Lib.hid hbx
    have HGS := Lib.hid hgs
    have HST := Lib.hid hst
    have HRR := Lib.hid hrr
    have HRL := Lib.hid hrl
    have HNG : Hid (wr.heap.size ≠ g) := Lib.hid (by have := HS.out.row.lt; omega)
    obtain ⟨n0, n1, n2, n3⟩ := hst.cells
    clear hla hbx hgs hst hlt hrr hrl n0 n1 n3 HST1 HRf HIn HS6
    rcases HWay.out with ⟨rfl, hz3, rfl, rfl, rfl⟩ | ⟨rfl, z30, z31, rfl, rfl, hT, rfl⟩
    · exact absurd hz3 (by omega)
    · have HZ3 := Lib.hid (And.intro z30 z31)
      by_cases ht : taken T
      · have hpa : M.passes z1 y z3 := by unfold MG.passes; rw [← hT]; exact ht
        have t1 : (T != 1) = true := by rcases ht with rfl | rfl <;> rfl
        have t2 : (T != 2) = true := by rcases ht with rfl | rfl <;> rfl
        have t3 : T ≠ 1 := by rcases ht with rfl | rfl <;> decide
        have t4 : T ≠ 2 := by rcases ht with rfl | rfl <;> decide
        have t5 : (T == 1) = false := by rcases ht with rfl | rfl <;> rfl
        have t6 : (T == 2) = false := by rcases ht with rfl | rfl <;> rfl
        have hg := HP.out.good
        have hl2 := HP.out.all.2
        have HR2 := Lib.hid (fun W (hW : LA W (.slice pa ra.had.length ca) ra.had) => rin_any (now := z1) (seq := z3) HP.out.all.1 hg.all pa _ ca W hW (by omega) HZ.out.1 HZ.out.2 z30 z31)
        have HTA : Hid (taken ((M.ones y).told z1 z3)) := Lib.hid (by rw [← hT]; exact ht)
        have hcs := noted_two (M.all.fresh z1) z3
        change M.all.told z1 z3 = 0 ∨ M.all.told z1 z3 = 1 ∨ M.all.told z1 z3 = 2 ∨ M.all.told z1 z3 = 3 at hcs
        have hok : decide (M.told z1 y z3) = decide (taken (M.all.told z1 z3)) := by unfold MG.told; simp [hpa]
        rw [hok]
        have HFY := Lib.hid (fun (rq2 : RQ) (hr2 : RR (M.all.into z1 z3) rq2) (hl : rq2.had.length ≤ ra.had.length + 1) => HP.out.frame_yes (by omega) HZ.out.1 HZ.out.2 z30 z31 HRR.out HRL.out HTA.out hr2 hl)
        generalize M.all.told z1 z3 = T2 at *
        have p0 := HP.out.p0
        have p1 := HP.out.p1
        have a0 := HP.out.a0
        have a1 := HP.out.a1
        have v5 : wrap64 (passed + 1) = passed + 1 := by unfold wrap64; omega
        have v6 : wrap64 (again + 1) = again + 1 := by unfold wrap64; omega
        have HK100 : Hid (k + 1 ≤ N) := Lib.hid (by omega)
        clear hok hT ht hpa hg hl2 z30 z31 HWay HTA p0 p1 a0 a1
        rcases hcs with rfl | rfl | rfl | rfl
        · rw [show decide (taken 0) = true by decide]
          go_wp2_with (first
            | ((with_reducible refine at_loadR ?_); refine wpList_loadR rfl _ rfl bx _ _ rfl HBX.out ?_)
            | ((with_reducible refine at_storeR ?_); refine wpList_storeE rfl _ _ rfl w.heap.size g vn y rs vs rr pv _ cv rfl rfl HGS.out.row HYN.out ?_; have HS8 := Lib.hid (HGS.out.setR HYN.out rr _ HLA.out); have hst8 : StepB (wc.setCells g (y * 13) (RA rr (.slice pv rr.had.length cv)).toList) wr.heap.size false z1 (y : Int) z3 := ((HGS.out.row.setB _ _).block _ HST.out.lt HNG.out).trans HST.out; generalize (wc.setCells g (y * 13) (RA rr (.slice pv rr.had.length cv)).toList) = W8 at HS8 hst8 ⊢; have HST8 := Lib.hid hst8; obtain ⟨s0, s1, s2, s3⟩ := hst8.cells; clear hst8 s0 s2)
            | ((with_reducible refine at_loadR ?_); refine wpList_loadR rfl _ rfl qa _ _ rfl HS8.out.box ?_; obtain ⟨rq2, hc2, hr2, hl2⟩ := HR2.out W8 HS8.out.la; have HC2 := Lib.hid hc2; have HRR2 := Lib.hid hr2; have HLL2 := Lib.hid hl2; clear hc2 hr2 hl2)
            | (go_at_call 24; (with_reducible refine HC2.out.mono ?_); rintro e x9 ⟨v3, rfl, hla9, hb9⟩; obtain ⟨p3, c3, rfl⟩ := hla9.slice; have HL9 := Lib.hid (hla9.below (bAl (bRef x9) (.cells (RA rq2 (.slice p3 rq2.had.length c3)) 39))); have HS9 := Lib.hid ((HS8.out.below hb9).below (bAl (bRef x9) (.cells (RA rq2 (.slice p3 rq2.had.length c3)) 39))); have HB9 : Hid (RB (x9.alloc (.cells (RA rq2 (.slice p3 rq2.had.length c3)) 39)) x9.heap.size rq2 (.slice p3 rq2.had.length c3)) := Lib.hid (heap_alloc_one' x9 _); clear hla9 hb9)
            | ((with_reducible refine at_loadR ?_); refine wpList_loadR rfl _ rfl x9.heap.size _ _ rfl HB9.out ?_)
            | ((with_reducible refine at_storeR ?_); refine wpList_storeR rfl _ _ rfl qa rq2 _ p3 rq2.had.length c3 _ rfl rfl HS9.out.box ?_; have HS10 := Lib.hid (HS9.out.setA (ra' := rq2) HL9.out)))
          go_roundw
          case rel => exact ⟨k + 1, _, upd rs y rr, upd vs y _, rq2, _, next, passed + 1, again, silent, rfl, (by first | rfl | (rw [v5])), (by first | rfl | (rfl)), rfl, by go_num, HK100.out, HS10.out, by simpa [taken] using HFY.out rq2 HRR2.out HLL2.out⟩
          case measure => simp [intOf]; omega
        · rw [show decide (taken 1) = false by decide]
          go_wp2_with (first
            | ((with_reducible refine at_loadR ?_); refine wpList_loadR rfl _ rfl bx _ _ rfl HBX.out ?_)
            | ((with_reducible refine at_storeR ?_); refine wpList_storeE rfl _ _ rfl w.heap.size g vn y rs vs rr pv _ cv rfl rfl HGS.out.row HYN.out ?_; have HS8 := Lib.hid (HGS.out.setR HYN.out rr _ HLA.out); have hst8 : StepB (wc.setCells g (y * 13) (RA rr (.slice pv rr.had.length cv)).toList) wr.heap.size false z1 (y : Int) z3 := ((HGS.out.row.setB _ _).block _ HST.out.lt HNG.out).trans HST.out; generalize (wc.setCells g (y * 13) (RA rr (.slice pv rr.had.length cv)).toList) = W8 at HS8 hst8 ⊢; have HST8 := Lib.hid hst8; obtain ⟨s0, s1, s2, s3⟩ := hst8.cells; clear hst8 s0 s2)
            | ((with_reducible refine at_loadR ?_); refine wpList_loadR rfl _ rfl qa _ _ rfl HS8.out.box ?_; obtain ⟨rq2, hc2, hr2, hl2⟩ := HR2.out W8 HS8.out.la; have HC2 := Lib.hid hc2; have HRR2 := Lib.hid hr2; have HLL2 := Lib.hid hl2; clear hc2 hr2 hl2)
            | (go_at_call 24; (with_reducible refine HC2.out.mono ?_); rintro e x9 ⟨v3, rfl, hla9, hb9⟩; obtain ⟨p3, c3, rfl⟩ := hla9.slice; have HL9 := Lib.hid (hla9.below (bAl (bRef x9) (.cells (RA rq2 (.slice p3 rq2.had.length c3)) 39))); have HS9 := Lib.hid ((HS8.out.below hb9).below (bAl (bRef x9) (.cells (RA rq2 (.slice p3 rq2.had.length c3)) 39))); have HB9 : Hid (RB (x9.alloc (.cells (RA rq2 (.slice p3 rq2.had.length c3)) 39)) x9.heap.size rq2 (.slice p3 rq2.had.length c3)) := Lib.hid (heap_alloc_one' x9 _); clear hla9 hb9)
            | ((with_reducible refine at_loadR ?_); refine wpList_loadR rfl _ rfl x9.heap.size _ _ rfl HB9.out ?_)
            | ((with_reducible refine at_storeR ?_); refine wpList_storeR rfl _ _ rfl qa rq2 _ p3 rq2.had.length c3 _ rfl rfl HS9.out.box ?_; have HS10 := Lib.hid (HS9.out.setA (ra' := rq2) HL9.out)))
          go_roundw
          case rel => exact ⟨k + 1, _, upd rs y rr, upd vs y _, rq2, _, next, passed, again + 1, silent, rfl, (by first | rfl | (rfl)), (by first | rfl | (rw [v6])), rfl, by go_num, HK100.out, HS10.out, by simpa [taken] using HFY.out rq2 HRR2.out HLL2.out⟩
          case measure => simp [intOf]; omega
        · rw [show decide (taken 2) = false by decide]
          go_wp2_with (first
            | ((with_reducible refine at_loadR ?_); refine wpList_loadR rfl _ rfl bx _ _ rfl HBX.out ?_)
            | ((with_reducible refine at_storeR ?_); refine wpList_storeE rfl _ _ rfl w.heap.size g vn y rs vs rr pv _ cv rfl rfl HGS.out.row HYN.out ?_; have HS8 := Lib.hid (HGS.out.setR HYN.out rr _ HLA.out); have hst8 : StepB (wc.setCells g (y * 13) (RA rr (.slice pv rr.had.length cv)).toList) wr.heap.size false z1 (y : Int) z3 := ((HGS.out.row.setB _ _).block _ HST.out.lt HNG.out).trans HST.out; generalize (wc.setCells g (y * 13) (RA rr (.slice pv rr.had.length cv)).toList) = W8 at HS8 hst8 ⊢; have HST8 := Lib.hid hst8; obtain ⟨s0, s1, s2, s3⟩ := hst8.cells; clear hst8 s0 s2)
            | ((with_reducible refine at_loadR ?_); refine wpList_loadR rfl _ rfl qa _ _ rfl HS8.out.box ?_; obtain ⟨rq2, hc2, hr2, hl2⟩ := HR2.out W8 HS8.out.la; have HC2 := Lib.hid hc2; have HRR2 := Lib.hid hr2; have HLL2 := Lib.hid hl2; clear hc2 hr2 hl2)
            | (go_at_call 24; (with_reducible refine HC2.out.mono ?_); rintro e x9 ⟨v3, rfl, hla9, hb9⟩; obtain ⟨p3, c3, rfl⟩ := hla9.slice; have HL9 := Lib.hid (hla9.below (bAl (bRef x9) (.cells (RA rq2 (.slice p3 rq2.had.length c3)) 39))); have HS9 := Lib.hid ((HS8.out.below hb9).below (bAl (bRef x9) (.cells (RA rq2 (.slice p3 rq2.had.length c3)) 39))); have HB9 : Hid (RB (x9.alloc (.cells (RA rq2 (.slice p3 rq2.had.length c3)) 39)) x9.heap.size rq2 (.slice p3 rq2.had.length c3)) := Lib.hid (heap_alloc_one' x9 _); clear hla9 hb9)
            | ((with_reducible refine at_loadR ?_); refine wpList_loadR rfl _ rfl x9.heap.size _ _ rfl HB9.out ?_)
            | ((with_reducible refine at_storeR ?_); refine wpList_storeR rfl _ _ rfl qa rq2 _ p3 rq2.had.length c3 _ rfl rfl HS9.out.box ?_; have HS10 := Lib.hid (HS9.out.setA (ra' := rq2) HL9.out)))
          go_roundw
          case rel => exact ⟨k + 1, _, upd rs y rr, upd vs y _, rq2, _, next, passed, again, silent, rfl, (by first | rfl | (rfl)), (by first | rfl | (rfl)), rfl, by go_num, HK100.out, HS10.out, by simpa [taken] using HFY.out rq2 HRR2.out HLL2.out⟩
          case measure => simp [intOf]; omega
        · rw [show decide (taken 3) = true by decide]
          go_wp2_with (first
            | ((with_reducible refine at_loadR ?_); refine wpList_loadR rfl _ rfl bx _ _ rfl HBX.out ?_)
            | ((with_reducible refine at_storeR ?_); refine wpList_storeE rfl _ _ rfl w.heap.size g vn y rs vs rr pv _ cv rfl rfl HGS.out.row HYN.out ?_; have HS8 := Lib.hid (HGS.out.setR HYN.out rr _ HLA.out); have hst8 : StepB (wc.setCells g (y * 13) (RA rr (.slice pv rr.had.length cv)).toList) wr.heap.size false z1 (y : Int) z3 := ((HGS.out.row.setB _ _).block _ HST.out.lt HNG.out).trans HST.out; generalize (wc.setCells g (y * 13) (RA rr (.slice pv rr.had.length cv)).toList) = W8 at HS8 hst8 ⊢; have HST8 := Lib.hid hst8; obtain ⟨s0, s1, s2, s3⟩ := hst8.cells; clear hst8 s0 s2)
            | ((with_reducible refine at_loadR ?_); refine wpList_loadR rfl _ rfl qa _ _ rfl HS8.out.box ?_; obtain ⟨rq2, hc2, hr2, hl2⟩ := HR2.out W8 HS8.out.la; have HC2 := Lib.hid hc2; have HRR2 := Lib.hid hr2; have HLL2 := Lib.hid hl2; clear hc2 hr2 hl2)
            | (go_at_call 24; (with_reducible refine HC2.out.mono ?_); rintro e x9 ⟨v3, rfl, hla9, hb9⟩; obtain ⟨p3, c3, rfl⟩ := hla9.slice; have HL9 := Lib.hid (hla9.below (bAl (bRef x9) (.cells (RA rq2 (.slice p3 rq2.had.length c3)) 39))); have HS9 := Lib.hid ((HS8.out.below hb9).below (bAl (bRef x9) (.cells (RA rq2 (.slice p3 rq2.had.length c3)) 39))); have HB9 : Hid (RB (x9.alloc (.cells (RA rq2 (.slice p3 rq2.had.length c3)) 39)) x9.heap.size rq2 (.slice p3 rq2.had.length c3)) := Lib.hid (heap_alloc_one' x9 _); clear hla9 hb9)
            | ((with_reducible refine at_loadR ?_); refine wpList_loadR rfl _ rfl x9.heap.size _ _ rfl HB9.out ?_)
            | ((with_reducible refine at_storeR ?_); refine wpList_storeR rfl _ _ rfl qa rq2 _ p3 rq2.had.length c3 _ rfl rfl HS9.out.box ?_; have HS10 := Lib.hid (HS9.out.setA (ra' := rq2) HL9.out)))
          go_roundw
          case rel => exact ⟨k + 1, _, upd rs y rr, upd vs y _, rq2, _, next, passed + 1, again, silent, rfl, (by first | rfl | (rw [v5])), (by first | rfl | (rfl)), rfl, by go_num, HK100.out, HS10.out, by simpa [taken] using HFY.out rq2 HRR2.out HLL2.out⟩
          case measure => simp [intOf]; omega
      · exact absurd (by rw [hT]; exact hta) ht
end Go.Proofs.Ytnkblihdgfhcdaa
