/- For all rooms and every slice of steps LanesRuns answers true: every answer is that of one list of all that wait. No condition. -/
import Derived.Test.YtpgcadceljalpaaLnPartN
namespace Go.Proofs.Ytpgcadceljalpaa
open Go.RowKit Go.Joins

def RunRel (w : World) (b lb n : Nat) (r : Nat → Int) (av iv : Value) (wr : World) : Prop :=
  ∃ (k : Nat) (s : LS) (L : List On) (F : Nat → Prop) (p4 : Option Addr) (m c4 : Nat), iv = .int .i64 (k : Int) ∧ av = .slice p4 m c4 ∧ L.length = m ∧ k ≤ n ∧ k ≤ 100 ∧ St w b lb r k s L F (.slice p4 m c4) wr
def Rm2Rel (x : World) (kv : Value) (wr : World) : Prop := ∃ k : Nat, kv = .int .i64 (k : Int) ∧ k ≤ 8 ∧ wr = x
set_option maxRecDepth 1000000 in
set_option maxHeartbeats 16000000 in
theorem lruns_yes (r : Nat → Int) (p : Option Addr) (n c : Nat) (w : World) (h : okR r 8) (ha : SlArg 13 Oksandglasslaw15Step w (.slice p n c) n) :
    Calls Try.prog 3 #[a8 r, .slice p n c] w fun e w' => e = .returned (.bool true) ∧ Below w.heap.size w w' := by
  have HH := Lib.hid lhead_ret
  have HN : Hid (∀ W, Below w.heap.size w W → Calls Try.prog 8 #[.agg #[.int .i64 (r 0), .int .i64 (r 1), .int .i64 (r 2), .int .i64 (r 3), .int .i64 (r 4), .int .i64 (r 5), .int .i64 (r 6), .int .i64 (r 7)]] W fun e w' => ∃ b, e = .returned (.tuple #[.pointer (some ⟨b, 0, none⟩), .int .i64 0]) ∧ W.heap.size ≤ b ∧ LnB w w' b (fun k => k = b) (LS.new r) ∧ Below W.heap.size W w') := Lib.hid (fun W hW => new_yes r h w W hW)
  have K0 : Hid ((w.alloc (o8 r)).heap[w.heap.size]? = some (o8 r)) := Lib.hid (heap_alloc_one' w _)
  have HI : Hid (∀ k : Nat, k < 8 → ∀ W, (Instr.index 22 (.agg #[.int .i64 (r 0), .int .i64 (r 1), .int .i64 (r 2), .int .i64 (r 3), .int .i64 (r 4), .int .i64 (r 5), .int .i64 (r 6), .int .i64 (r 7)]) (.int .i64 (k : Int))).run Try.prog W = .ok (.int .i64 (r k)) W) := Lib.hid (fun k hk W => a8_index r k hk W)
  have HOK := Lib.hid h
  have HA := Lib.hid ha
  clear h ha
  unfold a8
  go_enter Try.func3, Try.ntmps3
  refine wp_hideP (fun cx ax kx vx wx hx => by cases kx <;> exact hx) (fun Q9 hQ9 hP9 => ?_)
  have HQ9 := Lib.hid hQ9
  have HP9 := Lib.hid hP9
  clear hQ9 hP9
  go_wp2_with (first
    | (go_at_call 7; (with_reducible refine (HH.out _).mono ?_); rintro e x1 ⟨rfl, hb⟩; have HB := Lib.hid (bTr (bAl (bRef w) (o8 r)) hb); have K1 := Lib.hid ((hb.block _ (lt_of_heap K0.out)).trans K0.out); have c0 := o8_cells r K1.out (k := 0) (by decide); have c1 := o8_cells r K1.out (k := 1) (by decide); have c2 := o8_cells r K1.out (k := 2) (by decide); have c3 := o8_cells r K1.out (k := 3) (by decide); have c4 := o8_cells r K1.out (k := 4) (by decide); have c5 := o8_cells r K1.out (k := 5) (by decide); have c6 := o8_cells r K1.out (k := 6) (by decide); have c7 := o8_cells r K1.out (k := 7) (by decide); clear hb)
    | (go_at_call 8; (with_reducible refine (HN.out _ HB.out).mono ?_); rintro e x2 ⟨b, rfl, hlo, hm, hb⟩; have HM2 := Lib.hid hm; have HLO := Lib.hid (show w.heap.size < b from Nat.lt_of_lt_of_le (lt_of_heap K1.out) hlo); have K2 := Lib.hid ((hb.block _ (lt_of_heap K1.out)).trans K1.out); have e0 := o8_cells r K2.out (k := 0) (by decide); have e1 := o8_cells r K2.out (k := 1) (by decide); have e2 := o8_cells r K2.out (k := 2) (by decide); have e3 := o8_cells r K2.out (k := 3) (by decide); have e4 := o8_cells r K2.out (k := 4) (by decide); have e5 := o8_cells r K2.out (k := 5) (by decide); have e6 := o8_cells r K2.out (k := 6) (by decide); have e7 := o8_cells r K2.out (k := 7) (by decide); clear hlo hm hb))
  go_loopw [40] (fun kv wr => Rm2Rel x2 kv wr) (fun kv _ => 8 - (intOf kv).toNat)
  case atStart => exact ⟨0, rfl, by omega, rfl⟩
  case round =>
    clear c0 c1 c2 c3 c4 c5 c6 c7 e0 e1 e2 e3 e4 e5 e6 e7
    obtain ⟨k, rfl, hk, rfl⟩ := hrel
    rcases Nat.lt_or_ge k 8 with g1 | g1
    · have hd : decide ((k : Int) < 8) = true := decide_eq_true (by omega)
      have hI := HI.out k g1
      have d1 : decide (r k < 0) = false := decide_eq_false (by have := HOK.out k g1; omega)
      have d2 : decide (4096 < r k) = false := decide_eq_false (by have := HOK.out k g1; omega)
      clear HN HH HB K0 K1 K2 HM2
      go_wp2_with fail
      go_roundw
      case rel => exact ⟨k + 1, by go_num, by omega, rfl⟩
      case measure => simp [intOf]; omega
    · obtain rfl : k = 8 := by omega
      have hd : decide (((8 : Nat) : Int) < 8) = false := by decide
      go_wp2_with fail
      go_loopw [12, 14] (fun av iv wr' => RunRel w b (wr.heap.size + 1) n r av iv wr') (fun _ iv _ => n - (intOf iv).toNat)
      case atStart => exact ⟨0, LS.new r, [], fun k => k = b, _, 0, 0, rfl, rfl, rfl, by omega, by omega, ⟨All.start r, new_good r, rfl, fun c _ => ⟨Int.le_refl _, Int.le_refl _⟩, Nat.le_refl _, fun c hc => (HOK.out c hc).1, RunS.start HM2.out K2.out HLO.out⟩⟩
      case round =>
        clear HN HH HB K0 K1 HM2 HI hd hk
        obtain ⟨k, s, L, F, p4, m, c4, rfl, rfl, hm, hkn, hk1, hst⟩ := hrel
        have HST := Lib.hid hst
        have HM := Lib.hid hm
        clear hst hm
        rcases Nat.lt_or_ge k n with g2 | g2
        · have d1 : decide ((k : Int) < (n : Int)) = true := decide_eq_true (by omega)
          rcases Nat.lt_or_ge k 100 with g3 | g3
          · have d2 : decide ((k : Int) < 100) = true := decide_eq_true (by omega)
            obtain ⟨ab, ao, Fa, rfl, hab, hF⟩ := SlArg.at HA.out (by omega)
            obtain ⟨⟨z0, z1, z2, z3, z4, z5, z6, z7, z8, z9, z10, z11, z12, hz, bs⟩, hlen, hc⟩ := hF k g2
            rw [hz] at hc
            have hq := fun j hj => (HST.out.st.ln.bel.cell (p := ⟨ab, ao + k * 13 + j, none⟩) hab).trans (hc j hj)
            have HQ := Lib.hid hq
            clear hq hc hz bs hF
            go_upto_if 99 with (fail)
            refine wp_cond_true (by go_simp) ?_
            go_step
            go_step
            go_step
            clear d1 d2
            apply wp_seq_k
            intro K hK
            refine rn_body (l := fun j => ([z5, z6, z7, z8, z9, z10, z11, z12] : List Int).getD j 0) HST.out HM.out g3 g2 HOK.out (HQ.out 0 (by omega)) (HQ.out 1 (by omega)) (HQ.out 2 (by omega)) (HQ.out 3 (by omega)) (HQ.out 4 (by omega)) (HQ.out 5 (by omega)) (HQ.out 6 (by omega)) (HQ.out 7 (by omega)) (HQ.out 8 (by omega)) (HQ.out 9 (by omega)) (HQ.out 10 (by omega)) (HQ.out 11 (by omega)) (HQ.out 12 (by omega)) (fun cx ax kx vx wx hx => HP9.out cx ax kx vx wx hx) ?_
            intro z4 z15 z16 z17 z18 z19 z20 z21 z22 z23 z24 z25 z26 z27 z28 z29 z30 z31 z102 z103 z104 z105 z106 z107 z108 z109 z110 z111 z112 z113 z114 z115 z116 z117 z118 z119 z120 z121 z122 z123 z124 z125 z126 z127 z128 z129 z130 z131 z132 z133 z134 z135 z136 z137 z138 z139 z140 z141 z142 z143 z144 z145 z146 z147 z148 z149 z150 z151 z152 z153 z154 z155 z156 z157 z158 z159 z160 z161 z162 z163 z164 z165 z166 z167 z168 z169 z170 z171 z172 z173 z174 z175 z176 z177 z178 z179 z180 z181 z182 z183 z184 z185 z186 z187 z188 z189 z190 z191 z192 z193 z194 z195 z196 z197 z198 z199 z200 z201 z202 z203 z204 z205 z206 z207 z208 z209 z210 z211 z212 z213 z214 z215 z216 z217 z218 z219 z220 z221 z222 z223 z224 z225 z226 z227 z228 z229 z230 z231 z232 z233 z234 z235 z236 z237 z238 z239 z240 z241 z242 z243 z244 z245 z246 z247 z248 z249 z250 z251 z252 z253 z254 z255 z256 z257 z258 z259 z260 z261 z262 z263 z264 z265 z266 z267 z268 z269 z270 z271 z272 z273 z274 z275 z276 z277 z278 z279 z280 z281 z282 z283 z284 z285 z286 z287 z288 z289 z290 z291 z292 z293 z294 z295 z296 z297 z298 z299 z300 z301 z302 z303 z304 z305 z306 z307 z308 z309 z310 z311 z312 z313 z314 z315 z316 z317 z318 z319 z320 z321 z322 z323 z324 z325 z326 z327 z328 z329 z330 z331 z332 z333 z334 z335 z336 z337 z338 z339 z340 z341 z342 z343 z344 z345 z346 z347 z348 z349 z350 z351 z352 z353 z354 z355 z356 z357 z358 z359 z360 z361 z362 z363 z364 z365 z366 z367 z368 z369 z370 s' L' F' p' m' c' W' hst hl
            refine hK _ _ ?_
            have HS2 := Lib.hid hst
            have HL2 := Lib.hid hl
            have ec : wrap64 ((k : Int) + 1) = ((k + 1 : Nat) : Int) := by unfold wrap64; omega
            clear hst hl hK
            go_wp2_with fail
            refine ⟨?_, ?_⟩
            · (repeat apply Exists.intro)
              refine ⟨?_, rfl⟩
              exact ⟨k + 1, s', L', F', p', m', c', by go_num, rfl, HL2.out, by omega, by omega, HS2.out⟩
            · simp [intOf]; omega
          · obtain rfl : k = 100 := by omega
            have d2 : decide (((100 : Nat) : Int) < 100) = false := by decide
            have HBE := Lib.hid HST.out.st.ln.bel
            go_wp2_with fail
            refine HQ9.out _ _ _ ?_
            go_ret
            exact ⟨rfl, HBE.out⟩
        · obtain rfl : k = n := by omega
          have d1 : decide ((k : Int) < (k : Int)) = false := decide_eq_false (by omega)
          have HBE := Lib.hid HST.out.st.ln.bel
          go_wp2_with fail
          refine HQ9.out _ _ _ ?_
          go_ret
          exact ⟨rfl, HBE.out⟩

theorem lanesRuns_holds : Rows.LanesRunsSaid := lanesRuns_of (fun x0 x1 x2 x3 x4 x5 x6 x7 v n w _ _ _ _ _ _ _ _ ha => by
  obtain ⟨p, c, rfl⟩ := ha.slice
  by_cases h : okR (fun j => ([x0, x1, x2, x3, x4, x5, x6, x7] : List Int).getD j 0) 8
  · exact lruns_yes (fun j => ([x0, x1, x2, x3, x4, x5, x6, x7] : List Int).getD j 0) p n c w h ha
  · exact lruns_no (fun j => ([x0, x1, x2, x3, x4, x5, x6, x7] : List Int).getD j 0) p n c w h)

end Go.Proofs.Ytpgcadceljalpaa
