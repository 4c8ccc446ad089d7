/- For every list, room and slice of steps PortRuns answers true: whatever is put, whenever it is looked, whatever lists are changed to: which frame goes out when. No condition. -/
import Derived.Test.YtlpijhopllhccaaPoRunR
import Derived.Test.YtlpijhopllhccaaFPortRuns
namespace Go.Proofs.Ytlpijhopllhccaa
open Go.RowKit Go.Joins

set_option maxRecDepth 20000 in
set_option maxHeartbeats 8000000 in
theorem runs_law (b0 c0 : Int) (sp : Option Addr) (sc : Nat) (ts : List (Int × Int)) (x1 : Int) (pa : Option Addr) (n cc : Nat) (w : World) (ht : TArg w (.slice sp ts.length sc) ts) (hs : SArg w (.slice pa n cc) n) :
    Calls Try.prog 3 #[LV b0 c0 (.slice sp ts.length sc), .int .i64 x1, .slice pa n cc] w fun e w' => e = .returned (.bool true) ∧ Below w.heap.size w w' := by
  have HH := Lib.hid (fun W => lhead_ret W)
  have HE := Lib.hid (fun r W => eight_lit r W)
  have HT := Lib.hid ht
  have HSA := Lib.hid hs
  have HL0 := Lib.hid (LB.new w b0 c0 (.slice sp ts.length sc))
  have HB0 := Lib.hid (bAl (bRef w) (.cells #[.int .i64 b0, .int .i64 c0, .slice sp ts.length sc] 24))
  have l1 := low4 x1
  obtain ⟨R, hR⟩ : ∃ R, 1 + x1 % 16 = R := ⟨_, rfl⟩
  have e1 : wrap64 (1 + x1 % 16) = R := by rw [hR]; unfold wrap64; omega
  have e1b : wrap64 R = R := by unfold wrap64; omega
  have HR : Hid (1 ≤ R ∧ R ≤ 16) := Lib.hid (by omega)
  have HTA : Hid (∀ W, Below w.heap.size w W → TArg W (.slice sp ts.length sc) ts) := Lib.hid (fun W hb => ht.below hb)
  have HCH := Lib.hid (fun W (h : TArg W (.slice sp ts.length sc) ts) => check_any b0 c0 (.slice sp ts.length sc) ts W h)
  have HNB := Lib.hid (fun W (h : TArg W (.slice sp ts.length sc) ts) => fun (hz : chkV b0 c0 ts ≠ 0) => pnew_bad b0 c0 (.slice sp ts.length sc) ts h hz (fun _ => R))
  have HNK := Lib.hid (fun W (hb : Below w.heap.size w W) => fun (hz : chkV b0 c0 ts = 0) => pnew_ok hb b0 c0 (.slice sp ts.length sc) ts (ht.below hb) hz (fun _ => R) (fun _ _ => ⟨by have := HR.out; dsimp only; omega, by have := HR.out; dsimp only; omega⟩))
  obtain ⟨sn, hsn⟩ : ∃ sn, sn = ts.length := ⟨_, rfl⟩
  have HSN := Lib.hid hsn
  rw [← hsn] at HT HL0 HB0 HTA HCH HNB HNK
  rw [← hsn]
  clear ht hs hsn
  by_cases hlen : 64 < sn
  · have d0 : decide ((64 : Int) < (sn : Int)) = true := decide_eq_true (by omega)
    have d0n : decide (64 < sn) = true := decide_eq_true hlen
    clear hlen
    go_enter Try.func3, Try.ntmps3
    go_wp2_with (go_at_call 7; (with_reducible refine (HH.out _).mono ?_); rintro e u0 ⟨rfl, hb⟩; have HBU := Lib.hid (bTr HB0.out hb); obtain ⟨q0, q1, q2⟩ := (HL0.out.below hb).cells; clear hb)
    go_ret
    exact ⟨rfl, HBU.out⟩
  have d0 : decide ((64 : Int) < (sn : Int)) = false := decide_eq_false (by omega)
  have d0n : decide (64 < sn) = false := decide_eq_false hlen
  by_cases hn : 80 < n
  · have d2 : decide ((80 : Int) < (n : Int)) = true := decide_eq_true (by omega)
    have d2n : decide (80 < n) = true := decide_eq_true hn
    clear hn hlen
    go_enter Try.func3, Try.ntmps3
    go_wp2_with (go_at_call 7; (with_reducible refine (HH.out _).mono ?_); rintro e u0 ⟨rfl, hb⟩; have HBU := Lib.hid (bTr HB0.out hb); obtain ⟨q0, q1, q2⟩ := (HL0.out.below hb).cells; clear hb)
    go_ret
    exact ⟨rfl, HBU.out⟩
  have d2 : decide ((80 : Int) < (n : Int)) = false := decide_eq_false (by omega)
  have d2n : decide (80 < n) = false := decide_eq_false hn
  have HN80 : Hid (n ≤ 80) := Lib.hid (by omega)
  clear hn hlen
  by_cases hz : chkV b0 c0 ts = 0
  · have HZ := Lib.hid hz
    rw [hz] at HCH
    have HNK := Lib.hid (fun W hb => HNK.out W hb HZ.out)
    clear hz HNB
    go_enter Try.func3, Try.ntmps3
    refine wp_hideP (fun cx ax kx vx wx hx => by cases kx <;> exact hx) (fun Q9 hQ9 hP9 => ?_)
    go_wp2_with (go_at_call 7; (with_reducible refine (HH.out _).mono ?_); rintro e u0 ⟨rfl, hb⟩; have HBU := Lib.hid ((bTr HB0.out hb).trans (⟨rfl, rfl, rfl, Nat.le_refl _, fun _ _ => rfl⟩ : Below w.heap.size u0 u0.drew)); obtain ⟨q0, q1, q2⟩ := (HL0.out.below hb).cells; have HS := Lib.hid (And.intro q0 (And.intro q1 q2)); clear hb)
    refine wp_region_held_drew (S := fun U => U.cell? ⟨w.heap.size, 0, none⟩ = some (.int .i64 b0) ∧ U.cell? ⟨w.heap.size, 1, none⟩ = some (.int .i64 c0) ∧ U.cell? ⟨w.heap.size, 2, none⟩ = some (.slice sp sn sc)) (by kernel_rfl) HS.out (fun h0 => ?_)
    refine hTakeS (i := 0) (k := 48) (v := LV b0 c0 (.slice sp sn sc)) rfl rfl (by kernel_rfl) (by kernel_rfl) (by kernel_rfl) (fun cx ax wx hx => hP9 cx ax _ _ wx hx) (.inl ⟨by rfl, fun W hW => by obtain ⟨b0, b1, b2⟩ := hW; go_simp⟩) h0 ?_
    simp only [List.setIfInBounds_toArray, List.set_cons_zero, List.set_cons_succ]
    refine hTakeS (i := 1) (k := 49) (v := .int .i64 R) rfl rfl (by kernel_rfl) (by kernel_rfl) (by kernel_rfl) (fun cx ax wx hx => hP9 cx ax _ _ wx hx) (yieldsIf_val (by rfl) (by intro W; go_simp)) h0 ?_
    simp only [List.setIfInBounds_toArray, List.set_cons_zero, List.set_cons_succ]
    refine hCallR (i := 2) (k := 50) (by kernel_rfl) rfl rfl (by rfl) 9 #[.int .i64 R] (by go_simp) (HE.out R _) ?_
    rintro e v1 ⟨rfl, hb1⟩
    have s1 := And.intro ((hb1.cell (block_lt_cell h0.1)).trans h0.1) (And.intro ((hb1.cell (block_lt_cell h0.2.1)).trans h0.2.1) ((hb1.cell (block_lt_cell h0.2.2)).trans h0.2.2))
    have hbw := HBU.out.trans (hb1.mono HBU.out.size)
    refine ⟨_, rfl, s1, ?_⟩
    simp only [List.setIfInBounds_toArray, List.set_cons_zero, List.set_cons_succ]
    refine hCallR (i := 3) (k := 51) (by kernel_rfl) rfl rfl (by rfl) 8 #[LV b0 c0 (.slice sp sn sc), .agg #[.int .i64 R, .int .i64 R, .int .i64 R, .int .i64 R, .int .i64 R, .int .i64 R, .int .i64 R, .int .i64 R]] (by go_simp) (HNK.out _ hbw) ?_
    rintro e v2 ⟨k, L, rfl, hk, hL, hpl, hb2⟩
    have s2 := And.intro ((hb2.cell (block_lt_cell s1.1)).trans s1.1) (And.intro ((hb2.cell (block_lt_cell s1.2.1)).trans s1.2.1) ((hb2.cell (block_lt_cell s1.2.2)).trans s1.2.2))
    have HB2 := Lib.hid (hbw.trans (hb2.mono hbw.size))
    have HC2 := Lib.hid s2
    have HPL := Lib.hid hpl
    refine ⟨_, rfl, s2, ?_⟩
    simp only [List.setIfInBounds_toArray, List.set_cons_zero, List.set_cons_succ]
    refine hTakeS (i := 4) (k := 47) (v := .tuple #[.pointer (some ⟨k, 0, none⟩), .int .i64 0]) rfl rfl (by kernel_rfl) (by kernel_rfl) (by kernel_rfl) (fun cx ax wx hx => hP9 cx ax _ _ wx hx) (yieldsIf_val (by rfl) (by intro W; go_simp)) s2 ?_
    simp only [List.setIfInBounds_toArray, List.set_cons_zero, List.set_cons_succ]
    refine hTakeS (i := 5) (k := 52) (v := .pointer (some ⟨k, 0, none⟩)) rfl rfl (by kernel_rfl) (by kernel_rfl) (by kernel_rfl) (fun cx ax wx hx => hP9 cx ax _ _ wx hx) (yieldsIf_val (by rfl) (by intro W; go_simp)) s2 ?_
    simp only [List.setIfInBounds_toArray, List.set_cons_zero, List.set_cons_succ]
    refine hTakeS (i := 6) (k := 53) (v := .int .i64 0) rfl rfl (by kernel_rfl) (by kernel_rfl) (by kernel_rfl) (fun cx ax wx hx => hP9 cx ax _ _ wx hx) (yieldsIf_val (by rfl) (by intro W; go_simp)) s2 ?_
    simp only [List.setIfInBounds_toArray, List.set_cons_zero, List.set_cons_succ]
    refine hTakeS (i := 7) (k := 7) (v := .pointer (some ⟨k, 0, none⟩)) rfl rfl (by kernel_rfl) (by kernel_rfl) (by kernel_rfl) (fun cx ax wx hx => hP9 cx ax _ _ wx hx) (yieldsIf_val (by rfl) (by intro W; go_simp)) s2 ?_
    simp only [List.setIfInBounds_toArray, List.set_cons_zero, List.set_cons_succ]
    refine hTakeS (i := 8) (k := 8) (v := .int .i64 0) rfl rfl (by kernel_rfl) (by kernel_rfl) (by kernel_rfl) (fun cx ax wx hx => hP9 cx ax _ _ wx hx) (yieldsIf_val (by rfl) (by intro W; go_simp)) s2 ?_
    simp only [List.setIfInBounds_toArray, List.set_cons_zero, List.set_cons_succ]
    refine wpAnyH_done (by kernel_rfl) ?_ _
    clear s1 s2 hb1 hb2 h0 hbw hk hL hpl
    have HLN := Lib.hid (fun W (hb : Below w.heap.size w W) => new_yes (fun _ => R) (fun _ _ => ⟨by have := HR.out; dsimp only; omega, by have := HR.out; dsimp only; omega⟩) w W hb)
    obtain ⟨y0, y1, y2⟩ := HC2.out
    go_wp2_with (first
      | (go_at_call 10; (with_reducible refine (HCH.out _ (HTA.out _ HB2.out)).mono ?_); rintro e v3 ⟨rfl, hb⟩; have HB3 := Lib.hid (HB2.out.trans (hb.mono HB2.out.size)); have HPL3 := Lib.hid (HPL.out.below hb); have HC3 := Lib.hid (And.intro ((hb.cell (block_lt_cell HC2.out.1)).trans HC2.out.1) (And.intro ((hb.cell (block_lt_cell HC2.out.2.1)).trans HC2.out.2.1) ((hb.cell (block_lt_cell HC2.out.2.2)).trans HC2.out.2.2))); clear hb)
      | (go_at_call 9; (with_reducible refine (HE.out R _).mono ?_); rintro e v4 ⟨rfl, hb⟩; have HB4 := Lib.hid (HB3.out.trans (hb.mono HB3.out.size)); have HPL4 := Lib.hid (HPL3.out.below hb); have HC4 := Lib.hid (And.intro ((hb.cell (block_lt_cell HC3.out.1)).trans HC3.out.1) (And.intro ((hb.cell (block_lt_cell HC3.out.2.1)).trans HC3.out.2.1) ((hb.cell (block_lt_cell HC3.out.2.2)).trans HC3.out.2.2))); clear hb)
      | (go_at_call 18; refine (HLN.out _ HB4.out).mono ?_; rintro e v5 ⟨b, rfl, hlo, hln, hb⟩; have HPL5 := Lib.hid (HPL4.out.below hb); have HLN5 := Lib.hid hln; have HBL := Lib.hid hlo; obtain ⟨z0, z1, z2⟩ := (And.intro ((hb.cell (block_lt_cell HC4.out.1)).trans HC4.out.1) (And.intro ((hb.cell (block_lt_cell HC4.out.2.1)).trans HC4.out.2.1) ((hb.cell (block_lt_cell HC4.out.2.2)).trans HC4.out.2.2))); have HPK := Lib.hid HPL4.out.klt; have HPT : Hid (L < v4.heap.size) := Lib.hid (by obtain ⟨sl, hl⟩ := HPL4.out.ln.ln; exact hl.top L rfl); clear hlo hln hb))
    have hrt : RT w k L (PL.new b0 c0 ts) (LS.new fun _ => R) b (LS.new fun _ => R) (fun _ => False) v5 :=
      ⟨_, _, HPL5.out, HLN5.out, new_good _, (fun _ _ => ⟨by have := HR.out; show (0 : Int) ≤ R; omega, by have := HR.out; show R ≤ 4096; omega⟩), (fun j hj => ⟨(by have := HPK.out; have := HBL.out; omega), (by have := HPT.out; have := HBL.out; omega), fun e => e⟩), fun j hj => hj.elim⟩
    have HC := Lib.hid (RnRel.init (n := n) (HTA.out v5 HPL5.out.bel) HT.out HZ.out HR.out hrt)
    clear hrt z0 z1 z2
    refine rn_loop HC HSA HN80 (fun cx ax kx vx wx hx => hP9 cx ax kx vx wx hx) ?_
    intro z6 z16 z19 z20 z22 z23 z24 z25 z26 z27 z28 z29 z30 z31 z32 z125 z126 z127 z128 z129 z130 z131 z132 z133 z134 z135 z136 z137 z138 z139 z140 z141 z142 z143 z144 z145 z146 z147 z148 z149 z150 z151 z152 z153 z154 z155 z156 z157 z158 z159 z160 z161 z162 z163 z164 z165 z166 z167 z168 z169 z170 z171 z172 z173 z174 z175 z176 z177 z178 z179 z180 z181 z182 z183 z184 z185 z186 z187 z188 z189 z190 z191 z192 z193 z194 z195 z196 z197 z198 z199 z200 z201 z202 z203 z204 z205 z206 z207 z208 z209 z210 z211 z212 z213 z214 z215 z216 z217 z218 z219 z220 z221 z222 z223 z224 z225 z226 z227 z228 z229 z230 z231 z232 z233 z234 z235 z236 z237 z238 z239 z240 z241 z242 z243 z244 z245 z246 z247 z248 z249 z250 z251 z252 z253 z254 z255 z256 z257 z258 z259 z260 z261 z262 z263 z264 z265 z266 z267 z268 z269 z270 z271 z272 z273 z274 z275 z276 z277 z278 z279 z280 z281 z282 z283 z284 z285 z286 z287 z288 z289 z290 z291 z292 z293 z294 z295 W hb
    have HBE := Lib.hid hb
    clear hb
    dsimp only
    go_wp2_with fail
    first
      | (go_ret; exact ⟨rfl, HBE.out⟩)
      | (refine hQ9 _ _ _ ?_; go_ret; exact ⟨rfl, HBE.out⟩)
  · have HNB := Lib.hid (fun W h => HNB.out W h hz)
    obtain ⟨Z, hZ⟩ : ∃ Z, chkV b0 c0 ts = Z := ⟨_, rfl⟩
    rw [hZ] at HNB HCH hz
    have zb : (Z != 0) = true := by simpa using hz
    have HNN := Lib.hid (fun W => pnext_nil 0 W)
    have HNW := Lib.hid (fun W => pwhen_nil 0 W)
    have HNP := Lib.hid (fun W => pput_nil 0 0 0 false W)
    have HNC := Lib.hid (fun W => pchange_nil b0 c0 sp sn sc 0 W)
    have HNE := Lib.hid (fun W => pclear_nil W)
    have HNL := Lib.hid (fun W => plen_nil 0 W)
    have HNO := Lib.hid (fun W => plost_nil 0 W)
    clear hz hZ HNK
    go_enter Try.func3, Try.ntmps3
    refine wp_hideP (fun cx ax kx vx wx hx => by cases kx <;> exact hx) (fun Q9 hQ9 hP9 => ?_)
    go_wp2_with (go_at_call 7; (with_reducible refine (HH.out _).mono ?_); rintro e u0 ⟨rfl, hb⟩; have HBU := Lib.hid ((bTr HB0.out hb).trans (⟨rfl, rfl, rfl, Nat.le_refl _, fun _ _ => rfl⟩ : Below w.heap.size u0 u0.drew)); obtain ⟨q0, q1, q2⟩ := (HL0.out.below hb).cells; have HS := Lib.hid (And.intro q0 (And.intro q1 q2)); clear hb)
    refine wp_region_held_drew (S := fun U => U.cell? ⟨w.heap.size, 0, none⟩ = some (.int .i64 b0) ∧ U.cell? ⟨w.heap.size, 1, none⟩ = some (.int .i64 c0) ∧ U.cell? ⟨w.heap.size, 2, none⟩ = some (.slice sp sn sc)) (by kernel_rfl) HS.out (fun h0 => ?_)
    refine hTakeS (i := 0) (k := 48) (v := LV b0 c0 (.slice sp sn sc)) rfl rfl (by kernel_rfl) (by kernel_rfl) (by kernel_rfl) (fun cx ax wx hx => hP9 cx ax _ _ wx hx) (.inl ⟨by rfl, fun W hW => by obtain ⟨b0, b1, b2⟩ := hW; go_simp⟩) h0 ?_
    simp only [List.setIfInBounds_toArray, List.set_cons_zero, List.set_cons_succ]
    refine hTakeS (i := 1) (k := 49) (v := .int .i64 R) rfl rfl (by kernel_rfl) (by kernel_rfl) (by kernel_rfl) (fun cx ax wx hx => hP9 cx ax _ _ wx hx) (yieldsIf_val (by rfl) (by intro W; go_simp)) h0 ?_
    simp only [List.setIfInBounds_toArray, List.set_cons_zero, List.set_cons_succ]
    refine hCallR (i := 2) (k := 50) (by kernel_rfl) rfl rfl (by rfl) 9 #[.int .i64 R] (by go_simp) (HE.out R _) ?_
    rintro e v1 ⟨rfl, hb1⟩
    have s1 := And.intro ((hb1.cell (block_lt_cell h0.1)).trans h0.1) (And.intro ((hb1.cell (block_lt_cell h0.2.1)).trans h0.2.1) ((hb1.cell (block_lt_cell h0.2.2)).trans h0.2.2))
    have hbw := HBU.out.trans (hb1.mono HBU.out.size)
    refine ⟨_, rfl, s1, ?_⟩
    simp only [List.setIfInBounds_toArray, List.set_cons_zero, List.set_cons_succ]
    refine hCallR (i := 3) (k := 51) (by kernel_rfl) rfl rfl (by rfl) 8 #[LV b0 c0 (.slice sp sn sc), .agg #[.int .i64 R, .int .i64 R, .int .i64 R, .int .i64 R, .int .i64 R, .int .i64 R, .int .i64 R, .int .i64 R]] (by go_simp) (HNB.out _ (HTA.out _ hbw)) ?_
    rintro e v2 ⟨rfl, hb2⟩
    have s2 := And.intro ((hb2.cell (block_lt_cell s1.1)).trans s1.1) (And.intro ((hb2.cell (block_lt_cell s1.2.1)).trans s1.2.1) ((hb2.cell (block_lt_cell s1.2.2)).trans s1.2.2))
    have HB2 := Lib.hid (hbw.trans (hb2.mono hbw.size))
    have HC2 := Lib.hid s2
    refine ⟨_, rfl, s2, ?_⟩
    simp only [List.setIfInBounds_toArray, List.set_cons_zero, List.set_cons_succ]
    refine hTakeS (i := 4) (k := 47) (v := .tuple #[.pointer none, .int .i64 Z]) rfl rfl (by kernel_rfl) (by kernel_rfl) (by kernel_rfl) (fun cx ax wx hx => hP9 cx ax _ _ wx hx) (yieldsIf_val (by rfl) (by intro W; go_simp)) s2 ?_
    simp only [List.setIfInBounds_toArray, List.set_cons_zero, List.set_cons_succ]
    refine hTakeS (i := 5) (k := 52) (v := .pointer none) rfl rfl (by kernel_rfl) (by kernel_rfl) (by kernel_rfl) (fun cx ax wx hx => hP9 cx ax _ _ wx hx) (yieldsIf_val (by rfl) (by intro W; go_simp)) s2 ?_
    simp only [List.setIfInBounds_toArray, List.set_cons_zero, List.set_cons_succ]
    refine hTakeS (i := 6) (k := 53) (v := .int .i64 Z) rfl rfl (by kernel_rfl) (by kernel_rfl) (by kernel_rfl) (fun cx ax wx hx => hP9 cx ax _ _ wx hx) (yieldsIf_val (by rfl) (by intro W; go_simp)) s2 ?_
    simp only [List.setIfInBounds_toArray, List.set_cons_zero, List.set_cons_succ]
    refine hTakeS (i := 7) (k := 7) (v := .pointer none) rfl rfl (by kernel_rfl) (by kernel_rfl) (by kernel_rfl) (fun cx ax wx hx => hP9 cx ax _ _ wx hx) (yieldsIf_val (by rfl) (by intro W; go_simp)) s2 ?_
    simp only [List.setIfInBounds_toArray, List.set_cons_zero, List.set_cons_succ]
    refine hTakeS (i := 8) (k := 8) (v := .int .i64 Z) rfl rfl (by kernel_rfl) (by kernel_rfl) (by kernel_rfl) (fun cx ax wx hx => hP9 cx ax _ _ wx hx) (yieldsIf_val (by rfl) (by intro W; go_simp)) s2 ?_
    simp only [List.setIfInBounds_toArray, List.set_cons_zero, List.set_cons_succ]
    refine wpAnyH_done (by kernel_rfl) ?_ _
    clear s1 s2 hb1 hb2 h0 hbw
    obtain ⟨y0, y1, y2⟩ := HC2.out
    go_wp2_with (first
      | (go_at_call 10; (with_reducible refine (HCH.out _ (HTA.out _ HB2.out)).mono ?_); rintro e v3 ⟨rfl, hb⟩; have HB3 := Lib.hid (HB2.out.trans (hb.mono HB2.out.size)); have HC3 := Lib.hid (And.intro ((hb.cell (block_lt_cell HC2.out.1)).trans HC2.out.1) (And.intro ((hb.cell (block_lt_cell HC2.out.2.1)).trans HC2.out.2.1) ((hb.cell (block_lt_cell HC2.out.2.2)).trans HC2.out.2.2))); clear hb y0 y1 y2)
      | (go_at_call 11; (with_reducible refine (HNN.out _).mono ?_); rintro e v4 ⟨rfl, hb⟩; have hb9 := hb.trans ((bAl (bRef v4) (.cells #[.int .i64 0, .int .i64 0, .bool false] 35)).mono hb.size); have HB4 := Lib.hid (HB3.out.trans (hb9.mono HB3.out.size)); have HC4 := Lib.hid (And.intro ((hb9.cell (block_lt_cell HC3.out.1)).trans HC3.out.1) (And.intro ((hb9.cell (block_lt_cell HC3.out.2.1)).trans HC3.out.2.1) ((hb9.cell (block_lt_cell HC3.out.2.2)).trans HC3.out.2.2))); clear hb hb9)
      | (go_at_call 12; (with_reducible refine (HNW.out _).mono ?_); rintro e v5 ⟨rfl, hb⟩; have HB5 := Lib.hid (HB4.out.trans (hb.mono HB4.out.size)); have HC5 := Lib.hid (And.intro ((hb.cell (block_lt_cell HC4.out.1)).trans HC4.out.1) (And.intro ((hb.cell (block_lt_cell HC4.out.2.1)).trans HC4.out.2.1) ((hb.cell (block_lt_cell HC4.out.2.2)).trans HC4.out.2.2))); obtain ⟨y0, y1, y2⟩ := HC5.out; clear hb)
      | (go_at_call 10; (with_reducible refine (HCH.out _ (HTA.out _ HB5.out)).mono ?_); rintro e v6 ⟨rfl, hb⟩; have HB6 := Lib.hid (HB5.out.trans (hb.mono HB5.out.size)); have HC6 := Lib.hid (And.intro ((hb.cell (block_lt_cell HC5.out.1)).trans HC5.out.1) (And.intro ((hb.cell (block_lt_cell HC5.out.2.1)).trans HC5.out.2.1) ((hb.cell (block_lt_cell HC5.out.2.2)).trans HC5.out.2.2))); clear hb)
      | (go_at_call 13; (with_reducible refine (HNP.out _).mono ?_); rintro e v7 ⟨rfl, hb⟩; have HB7 := Lib.hid (HB6.out.trans (hb.mono HB6.out.size)); obtain ⟨r0, r1, r2⟩ := (And.intro ((hb.cell (block_lt_cell HC6.out.1)).trans HC6.out.1) (And.intro ((hb.cell (block_lt_cell HC6.out.2.1)).trans HC6.out.2.1) ((hb.cell (block_lt_cell HC6.out.2.2)).trans HC6.out.2.2))); clear hb)
      | (go_at_call 14; (with_reducible refine (HNC.out _).mono ?_); rintro e v8 ⟨rfl, hb⟩; have HB8 := Lib.hid (HB7.out.trans (hb.mono HB7.out.size)); clear hb)
      | (go_at_call 15; (with_reducible refine (HNE.out _).mono ?_); rintro e v9 ⟨rfl, rfl⟩)
      | (go_at_call 16; (with_reducible refine (HNL.out _).mono ?_); rintro e v9 ⟨rfl, rfl⟩)
      | (go_at_call 17; (with_reducible refine (HNO.out _).mono ?_); rintro e v9 ⟨rfl, rfl⟩))
    first
      | (go_ret; exact ⟨rfl, HB8.out⟩)
      | (refine hQ9 _ _ _ ?_; go_ret; exact ⟨rfl, HB8.out⟩)

theorem portRuns_holds : Rows.PortRunsSaid := portRuns_of (fun b0 c0 sl ts x1 v n w _ _ ht _ hs => by
  obtain ⟨pa, cc, rfl⟩ := hs.slice
  obtain ⟨sp, sc, rfl⟩ := ht.slice
  exact runs_law b0 c0 sp sc ts x1 pa n cc w ht hs)

end Go.Proofs.Ytlpijhopllhccaa
