/- PairRuns: whatever is told of either domain, whoever the clock is: every answer is that of two clocks of layer 18; for all arguments. -/
import Derived.Test.YtfeoppbincldfaaPrRunS
import Derived.Test.YtfeoppbincldfaaFPairRuns
namespace Go.Proofs.Ytfeoppbincldfaa
open Go.RowKit Go.Joins Go.Deep

/-- The state of the great loop. -/
def PrRel (I : Ids) (w : World) (iv : Value) (wr : World) : Prop :=
  ∃ (k : Nat) (s : PP), iv = .int .i64 (k : Int) ∧ k ≤ 60 ∧ RunP I wr s s ∧ s.Ok ∧ Below w.heap.size w wr
theorem at_buildZG {ops : Array Oper} {rest : List Oper} {d : Option Tmp} {t : TypeId} {s : String} {af : Array Edge} {gd : Option (Nat × Bool)} {a : Act} {w : World} {Q : Exit → Act → World → Prop}
    (h : wpList Try.prog ops Q (⟨d, .build 37 #[], t, s, af, gd⟩ :: rest) a w) : wpList Try.prog ops Q (⟨d, .build 37 #[], t, s, af, gd⟩ :: rest) a w := h
def zeroM : Mg := ⟨0, 0, 0, 0, 0, 0, 0, 0, 0, 0, 0, 0, 0, 0, 0, []⟩
set_option maxRecDepth 20000 in
set_option maxHeartbeats 8000000 in
theorem pruns_few (x0 : Int) (v : Value) (w : World) (h : x0 < 1) : Calls Try.prog 3 #[.int .i64 x0, v] w fun e w' => e = .returned (.bool true) ∧ Below w.heap.size w w' := by
  have HH := Lib.hid (fun W => head21_ret W)
  have HN := Lib.hid (fun W => pnew_no h W)
  have HT := Lib.hid (fun W => ptell_nil 0 0 0 0 W)
  have HS : Hid (∀ W, Calls Try.prog 20 #[.pointer none, .agg ZC, .int .i64 0] W fun e w' => e = .returned (.int .i64 31) ∧ Below W.heap.size W w') := Lib.hid (fun W => psync_nil zeroM (.slice none 0 0) 0 W)
  have HF : Hid (∀ W, Calls Try.prog 21 #[.pointer none, .agg ZC, .int .i64 0, .int .i64 0] W fun e w' => e = .returned (.int .i64 31) ∧ Below W.heap.size W w') := Lib.hid (fun W => pfollow_nil zeroM (.slice none 0 0) 0 0 W)
  have hb0 := bAl (bRef w) (.cells #[.int .i64 x0] 22)
  have HM := Lib.hid (heap_alloc_new w (.cells #[.int .i64 x0] 22))
  have HB := Lib.hid hb0
  have d : decide (x0 < 1) = true := decide_eq_true h
  clear h hb0
  go_enter Try.func3, Try.ntmps3
  go_wp2_with (first
    | (go_at_call 13; (with_reducible refine (HH.out _).mono ?_); rintro e w0 ⟨rfl, hb⟩; have B0 := Lib.hid (bTr HB.out hb); have hm := (hb.block _ (lt_of_heap HM.out)).trans HM.out; have cm := cell_of_row w0 w.heap.size 0 _ _ _ hm; clear hb hm)
    | (go_at_call 14; (with_reducible refine (HN.out _).mono ?_); rintro e w1 ⟨rfl, rfl⟩)
    | (go_at_call 15; (with_reducible refine (root_nil 0 true 0 _).mono ?_); rintro e w1 ⟨rfl, rfl⟩)
    | (go_at_call 16; (with_reducible refine (pat_nil 0 _).mono ?_); rintro e w1 ⟨rfl, rfl⟩)
    | (go_at_call 17; (with_reducible refine (HT.out _).mono ?_); rintro e w2 ⟨rfl, hb⟩; have B2 := Lib.hid (fun o => bAl (bTr B0.out hb) o); clear hb)
    | ((with_reducible refine at_storeM ?_); refine wpList_storeNM rfl _ _ rfl _ rfl #[.int .i64 0, .int .i64 0, .int .i64 0, .int .i64 0, .int .i64 0, .int .i64 0, .int .i64 0, .int .i64 0, .int .i64 0, .int .i64 0, .int .i64 0, .int .i64 0, .int .i64 0, .int .i64 0, .int .i64 0, .slice none 0 0] _ rfl rfl (by simp [Value.oneCell']) rfl rfl ?_)
    | (go_at_call 18; (with_reducible refine (pick_nil 0 _).mono ?_); rintro e w3 ⟨rfl, rfl⟩)
    | (go_at_call 19; (with_reducible refine (pfresh_nil 0 0 _).mono ?_); rintro e w3 ⟨rfl, n3, rfl⟩; have B3 := Lib.hid (bDr (B2.out (.cells #[.int .i64 0, .int .i64 0, .int .i64 0, .int .i64 0, .int .i64 0, .int .i64 0, .int .i64 0, .int .i64 0, .int .i64 0, .int .i64 0, .int .i64 0, .int .i64 0, .int .i64 0, .int .i64 0, .int .i64 0, .slice none 0 0] 37)) n3))
    | ((with_reducible refine at_buildZG ?_); refine wpList_buildGG (by rfl) _ _ rfl ZC (by rw [Array.map_empty]; exact Try.builtZ) ?_)
    | (go_at_call 20; (with_reducible refine (HS.out _).mono ?_); rintro e w4 ⟨rfl, hb⟩; have B4 := Lib.hid (bTr B3.out hb); clear hb)
    | (go_at_call 21; (with_reducible refine (HF.out _).mono ?_); rintro e w5 ⟨rfl, hb⟩; have B5 := Lib.hid (bTr B4.out hb); clear hb))
  go_ret
  exact ⟨rfl, B5.out⟩
def Xs1 (w : World) (c0 c1 : Nat) : World := w.alloc (.cells #[.pointer (some ⟨c0, 0, none⟩), .pointer (some ⟨c1, 0, none⟩)] 44)
def Xs2 (w : World) (c0 c1 : Nat) : World := (Xs1 w c0 c1).alloc (.cells #[.slice (some ⟨w.heap.size, 0, none⟩) 2 2] 46)
def Xs3 (w : World) (c0 c1 : Nat) : World := (Xs2 w c0 c1).alloc (.cells #[.bool false] 4)
def Xs4 (w : World) (c0 c1 : Nat) : World := (Xs3 w c0 c1).alloc (.cells #[.int .i64 (-1)] 3)
theorem pr_start {w : World} {p k0 k1 c0 c1 bm : Nat} {x : Int} (hp : Pw w p k0 k1 (PP.new x)) (h0 : Ck w c0 (CS.new 0)) (h1 : Ck w c1 (CS.new 1)) (hm : w.heap[bm]? = some (.cells #[.int .i64 x] 22 (0, 0)))
    (n1 : c0 ≠ c1) (n2 : c0 ≠ k0) (n3 : c0 ≠ k1) (n4 : c1 ≠ k0) (n5 : c1 ≠ k1) : RunP ⟨p, k0, k1, c0, c1, bm, w.heap.size + 1, w.heap.size, w.heap.size + 2, w.heap.size + 3⟩ (Xs4 w c0 c1) (PP.new x) (PP.new x) := by
  have b1 : Below w.heap.size w (Xs1 w c0 c1) := bAl (bRef w) _
  have b2 : Below w.heap.size w (Xs2 w c0 c1) := bAl b1 _
  have b3 : Below w.heap.size w (Xs3 w c0 c1) := bAl b2 _
  have b4 : Below w.heap.size w (Xs4 w c0 c1) := bAl b3 _
  have e1 : (Xs1 w c0 c1).heap.size = w.heap.size + 1 := by simp [Xs1]
  have e2 : (Xs2 w c0 c1).heap.size = w.heap.size + 2 := by simp [Xs2, e1]
  have e3 : (Xs3 w c0 c1).heap.size = w.heap.size + 3 := by simp [Xs3, e2]
  have k1' := heap_alloc_new w (.cells #[.pointer (some ⟨c0, 0, none⟩), .pointer (some ⟨c1, 0, none⟩)] 44)
  have k2' := heap_alloc_new (Xs1 w c0 c1) (.cells #[.slice (some ⟨w.heap.size, 0, none⟩) 2 2] 46)
  have k3' := heap_alloc_new (Xs2 w c0 c1) (.cells #[.bool false] 4)
  have k4' := heap_alloc_new (Xs3 w c0 c1) (.cells #[.int .i64 (-1)] 3)
  rw [e1] at k2'
  rw [e2] at k3'
  rw [e3] at k4'
  have r1 : (Xs4 w c0 c1).heap[w.heap.size]? = _ := ((heap_alloc_old (Xs3 w c0 c1) _ (by omega)).trans ((heap_alloc_old (Xs2 w c0 c1) _ (by omega)).trans (heap_alloc_old (Xs1 w c0 c1) _ (by omega)))).trans k1'
  have r2 : (Xs4 w c0 c1).heap[w.heap.size + 1]? = _ := ((heap_alloc_old (Xs3 w c0 c1) _ (by omega)).trans (heap_alloc_old (Xs2 w c0 c1) _ (by omega))).trans k2'
  have r3 : (Xs4 w c0 c1).heap[w.heap.size + 2]? = _ := (heap_alloc_old (Xs3 w c0 c1) _ (by omega)).trans k3'
  exact ⟨hp.below b4, h0.below b4, h1.below b4, ⟨(b4.block _ (lt_of_heap hm)).trans hm, r2, r1⟩, r3, k4', n1, n2, n3, n4, n5⟩
set_option maxRecDepth 20000 in
set_option maxHeartbeats 16000000 in
theorem pruns_many (x0 : Int) (v : Value) (n : Nat) (w : World) (hx : In64 x0) (h : 1 ≤ x0) (hv : TArg w v n) : Calls Try.prog 3 #[.int .i64 x0, v] w fun e w' => e = .returned (.bool true) ∧ Below w.heap.size w w' := by
  obtain ⟨pp, c, rfl⟩ := hv.slice
  have HV := Lib.hid hv
  have HH := Lib.hid (fun W => head21_ret W)
  have HN := Lib.hid (fun W => pnew_ok h W)
  have HC0 := Lib.hid (fun W => newc_any 0 W)
  have HC1 := Lib.hid (fun W => newc_any 1 W)
  have hb0 := bAl (bRef w) (.cells #[.int .i64 x0] 22)
  have HM := Lib.hid (heap_alloc_new w (.cells #[.int .i64 x0] 22))
  have HB := Lib.hid hb0
  have d : decide (x0 < 1) = false := decide_eq_false (by omega)
  have HOK := Lib.hid (PP.Ok.new hx)
  clear h hb0 hx hv
  go_enter Try.func3, Try.ntmps3
  refine wp_hideP (fun cx ax kx vx wx hx => by cases kx <;> exact hx) (fun Q9 hQ9 hP9 => ?_)
  go_wp2_with (first
    | (go_at_call 13; (with_reducible refine (HH.out _).mono ?_); rintro e w0 ⟨rfl, hb⟩; have B0 := Lib.hid (bTr HB.out hb); have hm := (hb.block _ (lt_of_heap HM.out)).trans HM.out; have M0 := Lib.hid hm; have cm := cell_of_row w0 w.heap.size 0 _ _ _ hm; clear hb hm)
    | (go_at_call 14; (with_reducible refine (HN.out _).mono ?_); rintro e w1 ⟨p, k0, k1, rfl, l0, l1, l2, h1, hb⟩; have H1 := Lib.hid h1; have B1 := Lib.hid (bTr B0.out hb); have hm := (hb.block _ (lt_of_heap M0.out)).trans M0.out; have M1 := Lib.hid hm; have cm1 := cell_of_row w1 w.heap.size 0 _ _ _ hm; have L1 := Lib.hid (And.intro l0 (And.intro l1 l2)); clear hb hm h1 l0 l1 l2)
    | (go_at_call 22; (with_reducible refine (HC0.out w1).mono ?_); rintro e w2 ⟨c0, rfl, l0, h1, hb⟩; have C2 := Lib.hid h1; have H2 := Lib.hid (H1.out.below hb); have B2 := Lib.hid (bTr B1.out hb); have M2 := Lib.hid ((hb.block _ (lt_of_heap M1.out)).trans M1.out); have L2 := Lib.hid l0; clear hb h1 l0)
    | (go_at_call 22; (with_reducible refine (HC1.out w2).mono ?_); rintro e w3 ⟨c1, rfl, l0, h1, hb⟩; have E3 := Lib.hid h1; have C3 := Lib.hid (C2.out.below hb); have H3 := Lib.hid (H2.out.below hb); have B3 := Lib.hid (bTr B2.out hb); have M3 := Lib.hid ((hb.block _ (lt_of_heap M2.out)).trans M2.out); have L3 := Lib.hid l0; clear hb h1 l0))
  obtain ⟨l0, l1, l2⟩ := L1.out
  have HI : Hid (∀ k, k ∈ (Ids.L (⟨p, k0, k1, c0, c1, w.heap.size, w3.heap.size + 1, w3.heap.size, w3.heap.size + 2, w3.heap.size + 3⟩ : Ids)) → w.heap.size ≤ k) := Lib.hid (by
    have s0 := B0.out.size
    have s1 := B1.out.size
    have s2 := B2.out.size
    have s3 := B3.out.size
    have q2 := L2.out
    have q3 := L3.out
    intro k hk
    simp only [Ids.L, List.mem_cons, List.not_mem_nil, or_false] at hk
    omega)
  have HST : Hid (RunP (⟨p, k0, k1, c0, c1, w.heap.size, w3.heap.size + 1, w3.heap.size, w3.heap.size + 2, w3.heap.size + 3⟩ : Ids) (Xs4 w3 c0 c1) (PP.new x0) (PP.new x0) ∧ Below w.heap.size w (Xs4 w3 c0 c1)) := Lib.hid (by
    have q2 := L2.out
    have q3 := L3.out
    have a0 := H1.out.c0.lt
    have a1 := H1.out.c1.lt
    have a2 := C2.out.lt
    refine ⟨pr_start H3.out C3.out E3.out M3.out (by omega) (by omega) (by omega) (by omega) (by omega), ?_⟩
    exact bAl (bAl (bAl (bAl B3.out _) _) _) _)
  clear l0 l1 l2 L1 L2 L3 M0 M1 M2 M3 H1 H2 H3 C2 C3 E3 B0 B1 B2 B3 cm cm1 HH HN HC0 HC1 HM HB
  go_loopw [16] (fun iv wr => PrRel (⟨p, k0, k1, c0, c1, w.heap.size, w3.heap.size + 1, w3.heap.size, w3.heap.size + 2, w3.heap.size + 3⟩ : Ids) w iv wr) (fun iv _ => 60 - (intOf iv).toNat)
  case atStart => exact ⟨0, PP.new x0, rfl, by omega, HST.out.1, HOK.out, HST.out.2⟩
  case round =>
    refine wp_hideP (fun cx ax kx vx wx hx => hP9 cx ax kx vx wx hx) (fun Q8 hQ8 hP8 => ?_)
    obtain ⟨k, s, rfl, hk, hp, ok, hb⟩ := hrel
    have HP := Lib.hid hp
    have HB := Lib.hid hb
    clear hp hb
    rcases Nat.lt_or_ge k n with g1 | g1
    · have hd : decide ((k : Int) < (n : Int)) = true := decide_eq_true (by omega)
      rcases Nat.lt_or_ge k 60 with g2 | g2
      · have hd2 : decide ((k : Int) < 60) = true := decide_eq_true (by omega)
        obtain ⟨sb, o, F, rfl, hsb, hF⟩ := HV.out.at (by omega)
        obtain ⟨hst, hc⟩ := hF k g1
        have HC : Hid (wr.rangeAt sb (o + k * 22) (StC (F k)).toList) := Lib.hid (fun j x hx => (HB.out.cell (p := ⟨sb, o + k * 22 + j, none⟩) hsb).trans (hc j x hx))
        clear hF hc
        generalize F k = st at *
        go_upto_if 102 with (fail)
        refine wp_cond_true (by go_simp) ?_
        go_step
        go_step
        go_step
        refine rn_body (w := w) HP.out ok HC.out hst HB.out HI.out g1 g2 (fun cx ax kx vx wx hx => hP8 cx ax kx vx wx hx) ?_
        intro z4 z17 z18 z19 z20 z21 z22 z23 z24 z25 z26 z27 z28 z29 z30 z103 z104 z105 z106 z107 z108 z109 z110 z111 z112 z113 z114 z115 z116 z117 z118 z119 z120 z121 z122 z123 z124 z125 z126 z127 z128 z129 z130 z131 z132 z133 z134 z135 z136 z137 z138 z139 z140 z141 z142 z143 z144 z145 z146 z147 z148 z149 z150 z151 z152 z153 z154 z155 z156 z157 z158 z159 z160 z161 z162 z163 z164 z165 z166 z167 z168 z169 z170 z171 z172 z173 z174 z175 z176 z177 z178 z179 z180 z181 z182 z183 z184 z185 z186 z187 z188 z189 z190 z191 z192 z193 z194 z195 z196 z197 z198 z199 z200 z201 z202 z203 z204 z205 z206 z207 z208 z209 z210 z211 z212 z213 z214 z215 z216 z217 z218 z219 z220 z221 z222 z223 z224 z225 z226 z227 z228 z229 z230 z231 z232 z233 z234 z235 z236 z237 z238 z239 z240 z241 z242 z243 z244 z245 z246 z247 z248 z249 z250 z251 z252 z253 z254 z255 z256 z257 z258 z259 z260 z261 z262 z263 z264 z265 z266 z267 z268 z269 z270 z271 z272 z273 z274 z275 z276 z277 z278 z279 z280 z281 z282 z283 z284 z285 z286 z287 z288 z289 z290 z291 z292 z293 z294 z295 z296 z297 z298 z299 z300 z301 z302 z303 z304 z305 z306 z307 z308 z309 z310 z311 z312 z313 z314 z315 z316 z317 z318 z319 z320 z321 z322 z323 z324 z325 z326 z327 z328 z329 z330 z331 z332 z333 z334 z335 z336 z337 z338 z339 z340 z341 z342 z343 z344 z345 z346 z347 z348 z349 z350 z351 z352 z353 z354 z355 z356 z357 z358 z359 z360 z361 z362 z363 z364 z365 z366 z367 W' s' h1 h2 h3
        have H1' := Lib.hid h1
        have B1' := Lib.hid h3
        clear h1 h3
        have HRR : Hid (PrRel (⟨p, k0, k1, c0, c1, w.heap.size, w3.heap.size + 1, w3.heap.size, w3.heap.size + 2, w3.heap.size + 3⟩ : Ids) w (.int .i64 ((k : Int) + 1)) W') := Lib.hid ⟨k + 1, s', by rw [show ((k : Int) + 1) = ((k + 1 : Nat) : Int) by omega], by omega, H1'.out, h2, B1'.out⟩
        refine hQ8 _ _ _ ?_
        dsimp only
        go_roundw
        case rel => first | exact HRR.out | ((repeat apply Exists.intro); exact ⟨HRR.out, rfl⟩)
        case measure => simp [intOf]; omega
      · have hd2 : decide ((k : Int) < 60) = false := decide_eq_false (by omega)
        go_wp2_with fail
        refine hQ9 _ _ _ ?_
        go_ret
        exact ⟨rfl, HB.out⟩
    · have hd : decide ((k : Int) < (n : Int)) = false := decide_eq_false (by omega)
      go_wp2_with fail
      refine hQ9 _ _ _ ?_
      go_ret
      exact ⟨rfl, HB.out⟩

theorem pairRuns_holds : Rows.PairRunsSaid := pairRuns_of (fun x0 v n w hx hv => by
  rcases Int.lt_or_le x0 1 with h | h
  · exact pruns_few x0 v w h
  · exact pruns_many x0 v n w hx h hv)

end Go.Proofs.Ytfeoppbincldfaa
