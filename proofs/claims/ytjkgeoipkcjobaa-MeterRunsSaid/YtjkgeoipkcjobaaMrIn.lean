/- MeterRuns: the reference's In where it takes. Written by gen_mrin.py. -/
import Derived.Test.YtjkgeoipkcjobaaMrInC
namespace Go.Proofs.Ytjkgeoipkcjobaa
open Go.RowKit Go.Joins Go.Deep

set_option maxRecDepth 1000000 in
set_option maxHeartbeats 16000000 in
theorem rin_ok {w : World} {m : MS} {pa pb : Addr} {na ca nb cb : Nat} {B C : Nat} (hA : NumZ B w (.slice (some pa) na ca) m.fi) (hB : NumZ C w (.slice (some pb) nb cb) m.se) (g : m.Good) (now size : Int) (y : Bool) (h0 : 0 ≤ size) (h1 : size ≤ 1600) (h2 : m.last ≤ now) (h3 : now ≤ 1099511627776) :
    Calls Try.prog 16 #[.agg (rrow m (.slice (some pa) na ca) (.slice (some pb) nb cb)), .int .i64 now, .int .i64 size, .bool y] w fun e w' => ∃ p1 n1 c1 p2 n2 c2, e = .returned (.tuple #[.agg (rrow (m.into now size y) (.slice (some p1) n1 c1) (.slice (some p2) n2 c2)), .int .i64 (m.told now size y), .int .i64 0]) ∧ NumZ w.heap.size w' (.slice (some p1) n1 c1) (m.into now size y).fi ∧ NumZ w.heap.size w' (.slice (some p2) n2 c2) (m.into now size y).se ∧ Below w.heap.size w w' := by
  obtain ⟨T, hT⟩ : ∃ T, m.told now size y = T := ⟨_, rfl⟩
  obtain ⟨mi, hmi⟩ : ∃ mi, m.into now size y = mi := ⟨_, rfl⟩
  rw [hT, hmi]
  have hM0 : ((w.alloc (.cells #[.int .i64 m.r, .int .i64 m.bu, .int .i64 m.mo, .int .i64 m.be, .bool m.cp, .bool m.aw, .bool m.sh, .int .i64 m.last, .slice (some pa) na ca, .slice (some pb) nb cb, .bool m.off] 39)).alloc (.cells #[.int .i64 0, .int .i64 0, .int .i64 0, .int .i64 0, .bool false, .bool false, .bool false, .int .i64 0, .slice none 0 0, .slice none 0 0, .bool false] 39)).heap[w.heap.size]? = some (.cells (rrow m (.slice (some pa) na ca) (.slice (some pb) nb cb)) 39 (0, 0)) := ((bAl (bRef (w.alloc (.cells #[.int .i64 m.r, .int .i64 m.bu, .int .i64 m.mo, .int .i64 m.be, .bool m.cp, .bool m.aw, .bool m.sh, .int .i64 m.last, .slice (some pa) na ca, .slice (some pb) nb cb, .bool m.off] 39))) _).block _ (by simp)).trans (heap_alloc_new w _)
  have hR0 : ((w.alloc (.cells #[.int .i64 m.r, .int .i64 m.bu, .int .i64 m.mo, .int .i64 m.be, .bool m.cp, .bool m.aw, .bool m.sh, .int .i64 m.last, .slice (some pa) na ca, .slice (some pb) nb cb, .bool m.off] 39)).alloc (.cells #[.int .i64 0, .int .i64 0, .int .i64 0, .int .i64 0, .bool false, .bool false, .bool false, .int .i64 0, .slice none 0 0, .slice none 0 0, .bool false] 39)).heap[w.heap.size + 1]? = some (.cells #[.int .i64 0, .int .i64 0, .int .i64 0, .int .i64 0, .bool false, .bool false, .bool false, .int .i64 0, .slice none 0 0, .slice none 0 0, .bool false] 39 (0, 0)) := by
    have := heap_alloc_new (w.alloc (.cells #[.int .i64 m.r, .int .i64 m.bu, .int .i64 m.mo, .int .i64 m.be, .bool m.cp, .bool m.aw, .bool m.sh, .int .i64 m.last, .slice (some pa) na ca, .slice (some pb) nb cb, .bool m.off] 39)) (.cells #[.int .i64 0, .int .i64 0, .int .i64 0, .int .i64 0, .bool false, .bool false, .bool false, .int .i64 0, .slice none 0 0, .slice none 0 0, .bool false] 39)
    rwa [show (w.alloc (.cells #[.int .i64 m.r, .int .i64 m.bu, .int .i64 m.mo, .int .i64 m.be, .bool m.cp, .bool m.aw, .bool m.sh, .int .i64 m.last, .slice (some pa) na ca, .slice (some pb) nb cb, .bool m.off] 39)).heap.size = w.heap.size + 1 by simp] at this
  have hB0 : Below w.heap.size w ((w.alloc (.cells #[.int .i64 m.r, .int .i64 m.bu, .int .i64 m.mo, .int .i64 m.be, .bool m.cp, .bool m.aw, .bool m.sh, .int .i64 m.last, .slice (some pa) na ca, .slice (some pb) nb cb, .bool m.off] 39)).alloc (.cells #[.int .i64 0, .int .i64 0, .int .i64 0, .int .i64 0, .bool false, .bool false, .bool false, .int .i64 0, .slice none 0 0, .slice none 0 0, .bool false] 39)) := bAl (bAl (bRef w) _) _
  have HM0 := Lib.hid hM0
  have HR0 := Lib.hid hR0
  have HB0 := Lib.hid hB0
  clear hM0 hR0 hB0
  have d : decide (size < 0) = false := decide_eq_false (by omega)
  have d2 : decide (1600 < size) = false := decide_eq_false (by omega)
  have d3 : decide (now < m.last) = false := decide_eq_false (by omega)
  have d4 : decide (1099511627776 < now) = false := decide_eq_false (by omega)
  have l0 := g.l0
  obtain ⟨dt, hdt⟩ : ∃ dt, now - m.last = dt := ⟨_, rfl⟩
  have e1 : wrap64 (now - m.last) = dt := by unfold wrap64; omega
  have e2 : IntKind.i64.wrap (now - m.last) = dt := by rw [IntKind.wrap_i64]; omega
  have hdl : dt ≤ 1099511627776 := by omega
  have HDL := Lib.hid hdl
  have HG2 : Hid (({ m with last := now } : MS).Good) := Lib.hid ⟨g.r0, g.r1, g.bu0, g.bu1, g.mo0, g.mo1, g.be0, g.be1, by show 0 ≤ now; omega, h3, g.f0, g.f1, g.s0, g.s1⟩
  have HGW := Lib.hid (g.wait h2 h3)
  have hx1 := mul_bd (show (0 : Int) ≤ dt by omega) hdl g.r0 g.r1
  have hx2 := mul_bd (show (0 : Int) ≤ dt by omega) hdl g.mo0 g.mo1
  rw [Int.mul_comm dt m.r] at hx1
  rw [Int.mul_comm dt m.mo] at hx2
  have hy1 := fillP_bd (p := m.se) (more := m.mo * dt) (most := m.be) g.s0 hx2.1 g.be0
  have hy2 := fillL_bd (p := m.fi) (more := m.r * dt) (most := m.bu) g.f1 hx1.1
  have HL1 : Hid (fillP m.se (m.mo * dt) m.be < 604462909807314587353088) := Lib.hid (by have := g.be1; omega)
  have HL2 : Hid (fillL m.fi (m.r * dt) m.bu < 604462909807314587353088) := Lib.hid (by omega)
  have HAB : Hid (∀ W, Calls Try.prog 22 #[.int .i64 dt] W (NZ W dt)) := Lib.hid (fun W => rabs_any dt (by omega) (by omega) W)
  have HA := Lib.hid hA
  have HBV := Lib.hid hB
  have HDT := Lib.hid hdt
  have HT := Lib.hid hT
  have HMI := Lib.hid hmi
  have HSZ := Lib.hid (And.intro h0 h1)
  have HG := Lib.hid g
  clear hA hB hT hmi h0 h1 h2 h3 l0 hdl g hdt hx1 hx2 hy1 hy2
  obtain ⟨lw, hlw⟩ : ∃ lw : MS, lw = { m with last := now } := ⟨_, rfl⟩
  unfold rrow
  go_enter Try.func16, Try.ntmps16
  go_upto_region 9 with (go_at_call 22; (with_reducible refine (HAB.out _).mono ?_); rintro e w1 ⟨vn, rfl, hn1, hb1⟩; obtain ⟨pn, nn, cn, rfl⟩ := hn1.slice; have HN1 := Lib.hid hn1; have HM1 := Lib.hid ((hb1.block _ (lt_of_heap HM0.out)).trans HM0.out); have HR1 := Lib.hid ((hb1.block _ (lt_of_heap HR0.out)).trans HR0.out); have HB1 := Lib.hid (bTr HB0.out hb1); obtain ⟨-, -, -, k7, -, -, -, -, f7, -⟩ := rr_cells HM1.out; clear hn1 hb1)
  have hM2 : (w1.setCell ⟨w.heap.size, 7, none⟩ (.int .i64 now)).heap[w.heap.size]? = some (.cells (rrow { m with last := now } (.slice (some pa) na ca) (.slice (some pb) nb cb)) 39 (0, 0)) := heap_setCell_same _ _ 7 _ _ _ HM1.out
  have hR2 : (w1.setCell ⟨w.heap.size, 7, none⟩ (.int .i64 now)).heap[w.heap.size + 1]? = some (.cells #[.int .i64 0, .int .i64 0, .int .i64 0, .int .i64 0, .bool false, .bool false, .bool false, .int .i64 0, .slice none 0 0, .slice none 0 0, .bool false] 39 (0, 0)) := (heap_setCell_other w1 ⟨w.heap.size, 7, none⟩ _ _ (by simp)).trans HR1.out
  have hB2 := bSet HB1.out ⟨w.heap.size, 7, none⟩ (Nat.le_refl _) (.int .i64 now)
  have hN2 := HN1.out.set (i := 7) (u := .int .i64 now) (lt_of_heap HM0.out)
  generalize (w1.setCell ⟨w.heap.size, 7, none⟩ (.int .i64 now)) = w2 at *
  have HN2 := Lib.hid hN2
  have HR2 := Lib.hid hR2
  have HB2 := Lib.hid hB2
  have HM2 := Lib.hid hM2
  clear hM2 hR2 hB2 hN2 k7 f7 hlw lw
  refine ri_r9 (m := { m with last := now }) HM2.out (HA.out.below HB2.out) HN2.out HG2.out HDL.out (fun _ _ kx _ _ h => by cases kx <;> exact h) ?_
  intro z41 z42 z43 z44 z45 z46 z47 z48 z49 z50 z51 z52 z53 z54 z55 z56 v4 v5 w3 hM3 hn4 hn5 hb3
  obtain ⟨p4, n4, c4, rfl⟩ := hn4.slice
  obtain ⟨p5, n5, c5, rfl⟩ := hn5.slice
  have HB3 := Lib.hid (bTr HB2.out hb3)
  have HN3 := Lib.hid (HN2.out.below hb3)
  have HR3 := Lib.hid ((hb3.block _ (lt_of_heap HR2.out)).trans HR2.out)
  have HM3 := Lib.hid hM3
  have hge : w.heap.size + 2 ≤ w2.heap.size := lt_of_heap HR2.out
  have HN4 := Lib.hid (hn4.down hge)
  have HN5 := Lib.hid (hn5.down hge)
  clear hM3 hn4 hn5 hge hb3
  go_upto_region 10 with fail
  refine ri_r10 (m := { m with last := now }) HM3.out (HBV.out.below HB3.out) HN3.out HG2.out HDL.out (fun _ _ kx _ _ h => by cases kx <;> exact h) ?_
  intro z57 z58 z59 z60 z61 z62 z63 z64 z65 z66 z67 z68 z69 z70 z71 z72 v6 v7 w4 hM4 hn6 hn7 hb4
  obtain ⟨p6, n6, c6, rfl⟩ := hn6.slice
  obtain ⟨p7, n7, c7, rfl⟩ := hn7.slice
  have HB4 := Lib.hid (bTr HB3.out hb4)
  have HR4 := Lib.hid ((hb4.block _ (lt_of_heap HR3.out)).trans HR3.out)
  have HM4 := Lib.hid hM4
  have HF4 := Lib.hid (HN4.out.below hb4)
  have HO4 := Lib.hid (HN5.out.below hb4)
  have hge : w.heap.size + 2 ≤ w3.heap.size := lt_of_heap HR3.out
  have HS4 := Lib.hid (hn6.down hge)
  have HGE : Hid (w.heap.size + 2 ≤ w4.heap.size) := Lib.hid (lt_of_heap HR4.out)
  clear hM4 hn6 hn7 hge hb4 HN1 HM1 HR1 HB1 HM0 HR0 HB0 HN2 HR2 HB2 HM2 HB3 HN3 HR3 HM3 HN4 HN5
  rename_i hK0
  refine hK0 _ _ ?_
  apply wp_seq_k
  intro K hK
  have HK := Lib.hid hK
  clear hK hK0
  refine ri_cpl (m := { m with last := now }) HM4.out HS4.out HO4.out HGE.out HG2.out HL1.out HL2.out ?_
  intro z16 z17 z73 z74 z75 z76 z77 z78 z79 z80 z81 z82 z83 z84 z85 z86 v8 w5 hM5 hn8 hb5
  obtain ⟨p8, n8, c8, rfl⟩ := hn8.slice
  have HB5 := Lib.hid (bTr HB4.out hb5)
  have HM5 := Lib.hid hM5
  have HR5 := Lib.hid ((hb5.block _ (lt_of_heap HR4.out)).trans HR4.out)
  have HF5 := Lib.hid (HF4.out.below hb5)
  have HN8 := Lib.hid hn8
  obtain ⟨-, -, -, -, k8, k9, -, -, -, f8, f9, -⟩ := rr_cells HM5.out
  refine HK.out _ _ ?_
  clear HK hb5 hM5 hn8 HL1 HL2 HAB HM4 HS4 HO4 HGE HR4 HF4 HB4
  go_upto_region 16 with fail
  have hM6 : ((w5.setCell ⟨w.heap.size, 8, none⟩ (.slice (some p4) n4 c4)).setCell ⟨w.heap.size, 9, none⟩ (.slice (some p8) n8 c8)).heap[w.heap.size]? = some (.cells (rrow (m.wait now) (.slice (some p4) n4 c4) (.slice (some p8) n8 c8)) 39 (0, 0)) := heap_setCell_same _ _ 9 _ _ _ (heap_setCell_same _ _ 8 _ _ _ HM5.out)
  have hR6 : ((w5.setCell ⟨w.heap.size, 8, none⟩ (.slice (some p4) n4 c4)).setCell ⟨w.heap.size, 9, none⟩ (.slice (some p8) n8 c8)).heap[w.heap.size + 1]? = some (.cells #[.int .i64 0, .int .i64 0, .int .i64 0, .int .i64 0, .bool false, .bool false, .bool false, .int .i64 0, .slice none 0 0, .slice none 0 0, .bool false] 39 (0, 0)) := (heap_setCell_other _ ⟨w.heap.size, 9, none⟩ _ _ (by simp)).trans ((heap_setCell_other w5 ⟨w.heap.size, 8, none⟩ _ _ (by simp)).trans HR5.out)
  have hB6 := bSet (bSet HB5.out ⟨w.heap.size, 8, none⟩ (Nat.le_refl _) (.slice (some p4) n4 c4)) ⟨w.heap.size, 9, none⟩ (Nat.le_refl _) (.slice (some p8) n8 c8)
  have hlt : w.heap.size < w.heap.size + 2 := by omega
  have hF6 := (HF5.out.set (i := 8) (u := .slice (some p4) n4 c4) hlt).set (i := 9) (u := .slice (some p8) n8 c8) hlt
  have hS6 := (HN8.out.set (i := 8) (u := .slice (some p4) n4 c4) hlt).set (i := 9) (u := .slice (some p8) n8 c8) hlt
  generalize ((w5.setCell ⟨w.heap.size, 8, none⟩ (.slice (some p4) n4 c4)).setCell ⟨w.heap.size, 9, none⟩ (.slice (some p8) n8 c8)) = w6 at *
  obtain ⟨mw, hmw⟩ : ∃ mw, m.wait now = mw := ⟨_, rfl⟩
  rw [hmw] at hM6 HGW
  have HF6 : Hid (NumZ (w.heap.size + 2) w6 (.slice (some p4) n4 c4) mw.fi) := Lib.hid (by rw [← hmw]; show NumZ _ _ _ (fillP m.fi (m.r * (now - m.last)) m.bu); rw [HDT.out]; exact hF6)
  have HS6 : Hid (NumZ (w.heap.size + 2) w6 (.slice (some p8) n8 c8) mw.se) := Lib.hid (by rw [← hmw]; show NumZ _ _ _ (secP m now); unfold secP; rw [HDT.out]; exact hS6)
  have HM6 := Lib.hid hM6
  have HR6 := Lib.hid hR6
  have HB6 := Lib.hid hB6
  obtain ⟨need, hnd⟩ : ∃ need, 8 * size * 1000000000 = need := ⟨_, rfl⟩
  have HE1 : Hid (mw.col need y = T) := Lib.hid (by rw [← hnd, ← hmw, ← HT.out, Int.mul_comm 8 size]; rfl)
  have HE2 : Hid (mw.took need y = mi) := Lib.hid (by rw [← hnd, ← hmw, ← HMI.out, Int.mul_comm 8 size]; rfl)
  have hsz := HSZ.out
  have n1 : wrap64 (8 * size) = 8 * size := by unfold wrap64; omega
  have n2 : IntKind.i64.wrap (8 * size) = 8 * size := by rw [IntKind.wrap_i64]; omega
  have HBN : Hid (∀ W, Calls Try.prog 21 #[.int .i64 (8 * size)] W (NZ W need)) := Lib.hid (fun W => by rw [← hnd]; exact rbits_any (8 * size) (by omega) (by omega) W)
  have HND : Hid (0 ≤ need ∧ need < 1208925819614629174706176) := Lib.hid ⟨by omega, by omega⟩
  have HFL : Hid (mw.fi < 1208925819614629174706176 ∧ mw.se < 1208925819614629174706176) := Lib.hid (by have := HGW.out.f1; have := HGW.out.bu1; have := HGW.out.s1; have := HGW.out.be1; exact ⟨by omega, by omega⟩)
  clear hM6 hR6 hB6 hF6 hS6 hmw hnd hsz hlt k8 k9 f8 f9 HM5 HR5 HF5 HN8 HB5 HT HMI HDT HG2 HG HDL e1 e2 d d2 d3 d4 HA HBV HSZ
  go_upto_region 17 with (go_at_call 21; (with_reducible refine (HBN.out _).mono ?_); rintro e w7 ⟨vn, rfl, hn7, hb7⟩; obtain ⟨pq, nq, cq, rfl⟩ := hn7.slice; have HN7 := Lib.hid hn7; have HM7 := Lib.hid ((hb7.block _ (lt_of_heap HM6.out)).trans HM6.out); have HR7 := Lib.hid ((hb7.block _ (lt_of_heap HR6.out)).trans HR6.out); have HB7 := Lib.hid (bTr HB6.out hb7); have HF7 := Lib.hid (HF6.out.below hb7); have HS7 := Lib.hid (HS6.out.below hb7); obtain ⟨-, k5, k6, -, k8, k9, k10, -, -, f8, f9, f10⟩ := rr_cells HM7.out; clear hn7 hb7)
  have hge7 : w.heap.size + 2 ≤ w7.heap.size := lt_of_heap HR7.out
  by_cases hoff : mw.off = true
  · have e1 : mw.col need y = 2 := by unfold MS.col; rw [if_pos hoff]
    have e2 : mw.took need y = mw := by unfold MS.took; rw [if_pos hoff]
    have t1 := HE1.out
    have t2 := HE2.out
    rw [e1] at t1
    rw [e2] at t2
    have T1 := Lib.hid t1
    have T2 := Lib.hid t2
    clear t1 t2 e1 e2
    go_upto_region 18 with fail
    refine ri_ret18 (m := mw) HM7.out (by simp [rrow, Value.oneCell']) HR7.out rfl ?_
    intro _ W' hW'
    have HW' := Lib.hid hW'
    clear hW'
    go_wp2_with fail
    have hW' := HW'.out
    subst hW'
    refine bodyW3 rfl (w.heap.size + 1) (rrow mw (.slice (some p4) n4 c4) (.slice (some p8) n8 c8)) _ _ _ rfl rfl rfl (setRow_heap _ _ _ _ _ _ HR7.out) Try.underlying39 rfl (by kernel_rfl) rfl ?_
    have t1 := T1.out
    have t2 := T2.out
    subst t1 t2
    exact ⟨p4, n4, c4, p8, n8, c8, rfl, (HF7.out.row (by omega)).down (by omega), (HS7.out.row (by omega)).down (by omega), bRow HB7.out _ (by omega) _⟩
  have hoff2 : mw.off = false := by simpa using hoff
  have HOF := Lib.hid hoff2
  by_cases hle : need ≤ mw.fi
  · have HLE := Lib.hid hle
    cases y with
    | false =>
      have t1 := HE1.out
      have t2 := HE2.out
      rw [show mw.col need false = 0 by unfold MS.col; rw [if_neg hoff, if_pos (And.intro (by simp) hle)]] at t1
      rw [show mw.took need false = { mw with fi := mw.fi - need } by unfold MS.took; rw [if_neg hoff, if_pos (And.intro (by simp) hle)]] at t2
      have T1 := Lib.hid t1
      have T2 := Lib.hid t2
      clear t1 t2
      clear HE1 HE2
      go_upto_region 21 with (first
        | (go_at_call 25; (with_reducible refine (rcmp_any HN7.out HF7.out HND.out.2).mono ?_); rintro e w8 ⟨cv7, rfl, hc7, hb7⟩; have q7 : decide (cv7 ≤ 0) = true := decide_eq_true (hc7.2 HLE.out); have HN8 := Lib.hid (HN7.out.below hb7); have HM8 := Lib.hid ((hb7.block _ (lt_of_heap HM7.out)).trans HM7.out); have HR8 := Lib.hid ((hb7.block _ (lt_of_heap HR7.out)).trans HR7.out); have HB8 := Lib.hid (bTr HB7.out hb7); have HF8 := Lib.hid (HF7.out.below hb7); have HS8 := Lib.hid (HS7.out.below hb7); clear hc7 hb7; obtain ⟨-, k5, k6, -, k8, k9, k10, -, -, f8, f9, f10⟩ := rr_cells HM8.out)
        | (go_at_call 26; (with_reducible refine (rsub_any HF8.out HN8.out HLE.out HFL.out.1).mono ?_); rintro e wz ⟨vz, rfl, hz, hbz⟩; obtain ⟨pz, nz, cz, rfl⟩ := hz.slice; have HZ := Lib.hid (hz.down HB8.out.size); have HZF := Lib.hid (lt_of_heap HR8.out); have HZ2 := Lib.hid hz; have HMz := Lib.hid ((hbz.block _ (lt_of_heap HM8.out)).trans HM8.out); have HRz := Lib.hid ((hbz.block _ (lt_of_heap HR8.out)).trans HR8.out); have HBz := Lib.hid (bTr HB8.out hbz); have HFz := Lib.hid (HF8.out.below hbz); have HSz := Lib.hid (HS8.out.below hbz); clear hz hbz; obtain ⟨-, -, -, -, k8, k9, -, -, -, f8, f9, -⟩ := rr_cells HMz.out))
      have hMy : (wz.setCell ⟨w.heap.size, 8, none⟩ (.slice (some pz) nz cz)).heap[w.heap.size]? = some (.cells (rrow { mw with fi := mw.fi - need } (.slice (some pz) nz cz) (.slice (some p8) n8 c8)) 39 (0, 0)) := heap_setCell_same _ _ 8 _ _ _ HMz.out
      have hRy : (wz.setCell ⟨w.heap.size, 8, none⟩ (.slice (some pz) nz cz)).heap[w.heap.size + 1]? = some (.cells #[.int .i64 0, .int .i64 0, .int .i64 0, .int .i64 0, .bool false, .bool false, .bool false, .int .i64 0, .slice none 0 0, .slice none 0 0, .bool false] 39 (0, 0)) := (heap_setCell_other wz ⟨w.heap.size, 8, none⟩ _ _ (by simp)).trans HRz.out
      have HZ3 := HZ2.out.down (show w.heap.size + 2 ≤ _ from lt_of_heap HR8.out)
      refine ri_ret21 (m := { mw with fi := mw.fi - need }) hMy (by simp [rrow, Value.oneCell']) hRy rfl ?_
      intro _ W' hW'
      have HW' := Lib.hid hW'
      clear hW'
      go_wp2_with fail
      have hW' := HW'.out
      subst hW'
      refine bodyW3 rfl (w.heap.size + 1) (rrow { mw with fi := mw.fi - need } (.slice (some pz) nz cz) (.slice (some p8) n8 c8)) _ _ _ rfl rfl rfl (setRow_heap _ _ _ _ _ _ hRy) Try.underlying39 rfl (by kernel_rfl) rfl ?_
      have t1 := T1.out
      have t2 := T2.out
      subst t1 t2
      exact ⟨pz, nz, cz, p8, n8, c8, rfl, ((HZ3.set (i := 8) (u := .slice (some pz) nz cz) (by omega)).row (by omega)).down (by omega), ((HSz.out.set (i := 8) (u := .slice (some pz) nz cz) (by omega)).row (by omega)).down (by omega), bRow (bSet HBz.out ⟨w.heap.size, 8, none⟩ (Nat.le_refl _) (.slice (some pz) nz cz)) _ (by omega) _⟩
    | true =>
      rcases Bool.eq_false_or_eq_true mw.aw with haw | haw
      · have ey : ¬ (¬ (mw.aw && true) = true ∧ need ≤ mw.fi) := fun h => h.1 (by rw [haw]; rfl)
        by_cases hse : need ≤ mw.se
        · have HSE := Lib.hid hse
          have t1 := HE1.out
          have t2 := HE2.out
          rw [show mw.col need true = 1 by unfold MS.col; rw [if_neg hoff, if_neg (ey), if_pos hse]] at t1
          rw [show mw.took need true = { mw with se := mw.se - need } by unfold MS.took; rw [if_neg hoff, if_neg (ey), if_pos hse]] at t2
          have T1 := Lib.hid t1
          have T2 := Lib.hid t2
          clear t1 t2
          clear HE1 HE2
          go_upto_region 24 with (first
            | (go_at_call 25; (with_reducible refine (rcmp_any HN8.out HS8.out HND.out.2).mono ?_); rintro e w9 ⟨cv8, rfl, hc8, hb8⟩; have q8 : decide (cv8 ≤ 0) = true := decide_eq_true (hc8.2 HSE.out); have HN9 := Lib.hid (HN8.out.below hb8); have HM9 := Lib.hid ((hb8.block _ (lt_of_heap HM8.out)).trans HM8.out); have HR9 := Lib.hid ((hb8.block _ (lt_of_heap HR8.out)).trans HR8.out); have HB9 := Lib.hid (bTr HB8.out hb8); have HF9 := Lib.hid (HF8.out.below hb8); have HS9 := Lib.hid (HS8.out.below hb8); clear hc8 hb8; obtain ⟨-, k5, k6, -, k8, k9, k10, -, -, f8, f9, f10⟩ := rr_cells HM9.out)
            | (go_at_call 25; (with_reducible refine (rcmp_any HN7.out HF7.out HND.out.2).mono ?_); rintro e w8 ⟨cv7, rfl, hc7, hb7⟩; have q7 : decide (cv7 ≤ 0) = true := decide_eq_true (hc7.2 HLE.out); have HN8 := Lib.hid (HN7.out.below hb7); have HM8 := Lib.hid ((hb7.block _ (lt_of_heap HM7.out)).trans HM7.out); have HR8 := Lib.hid ((hb7.block _ (lt_of_heap HR7.out)).trans HR7.out); have HB8 := Lib.hid (bTr HB7.out hb7); have HF8 := Lib.hid (HF7.out.below hb7); have HS8 := Lib.hid (HS7.out.below hb7); clear hc7 hb7; obtain ⟨-, k5, k6, -, k8, k9, k10, -, -, f8, f9, f10⟩ := rr_cells HM8.out)
            | (go_at_call 26; (with_reducible refine (rsub_any HS9.out HN9.out HSE.out HFL.out.2).mono ?_); rintro e wz ⟨vz, rfl, hz, hbz⟩; obtain ⟨pz, nz, cz, rfl⟩ := hz.slice; have HZ := Lib.hid (hz.down HB9.out.size); have HZF := Lib.hid (lt_of_heap HR9.out); have HZ2 := Lib.hid hz; have HMz := Lib.hid ((hbz.block _ (lt_of_heap HM9.out)).trans HM9.out); have HRz := Lib.hid ((hbz.block _ (lt_of_heap HR9.out)).trans HR9.out); have HBz := Lib.hid (bTr HB9.out hbz); have HFz := Lib.hid (HF9.out.below hbz); have HSz := Lib.hid (HS9.out.below hbz); clear hz hbz; obtain ⟨-, -, -, -, k8, k9, -, -, -, f8, f9, -⟩ := rr_cells HMz.out))
          have hMy : (wz.setCell ⟨w.heap.size, 9, none⟩ (.slice (some pz) nz cz)).heap[w.heap.size]? = some (.cells (rrow { mw with se := mw.se - need } (.slice (some p4) n4 c4) (.slice (some pz) nz cz)) 39 (0, 0)) := heap_setCell_same _ _ 9 _ _ _ HMz.out
          have hRy : (wz.setCell ⟨w.heap.size, 9, none⟩ (.slice (some pz) nz cz)).heap[w.heap.size + 1]? = some (.cells #[.int .i64 0, .int .i64 0, .int .i64 0, .int .i64 0, .bool false, .bool false, .bool false, .int .i64 0, .slice none 0 0, .slice none 0 0, .bool false] 39 (0, 0)) := (heap_setCell_other wz ⟨w.heap.size, 9, none⟩ _ _ (by simp)).trans HRz.out
          have HZ3 := HZ2.out.down (show w.heap.size + 2 ≤ _ from lt_of_heap HR9.out)
          refine ri_ret24 (m := { mw with se := mw.se - need }) hMy (by simp [rrow, Value.oneCell']) hRy rfl ?_
          intro _ W' hW'
          have HW' := Lib.hid hW'
          clear hW'
          go_wp2_with fail
          have hW' := HW'.out
          subst hW'
          refine bodyW3 rfl (w.heap.size + 1) (rrow { mw with se := mw.se - need } (.slice (some p4) n4 c4) (.slice (some pz) nz cz)) _ _ _ rfl rfl rfl (setRow_heap _ _ _ _ _ _ hRy) Try.underlying39 rfl (by kernel_rfl) rfl ?_
          have t1 := T1.out
          have t2 := T2.out
          subst t1 t2
          exact ⟨p4, n4, c4, pz, nz, cz, rfl, ((HFz.out.set (i := 9) (u := .slice (some pz) nz cz) (by omega)).row (by omega)).down (by omega), ((HZ3.set (i := 9) (u := .slice (some pz) nz cz) (by omega)).row (by omega)).down (by omega), bRow (bSet HBz.out ⟨w.heap.size, 9, none⟩ (Nat.le_refl _) (.slice (some pz) nz cz)) _ (by omega) _⟩
        · have HSE := Lib.hid hse
          have t1 := HE1.out
          have t2 := HE2.out
          rw [show mw.col need true = 2 by unfold MS.col; rw [if_neg hoff, if_neg (ey), if_neg hse]] at t1
          rw [show mw.took need true = { mw with off := mw.sh } by unfold MS.took; rw [if_neg hoff, if_neg (ey), if_neg hse]] at t2
          have T1 := Lib.hid t1
          have T2 := Lib.hid t2
          clear t1 t2
          clear HE1 HE2
          go_upto_region 26 with (first
            | (go_at_call 25; (with_reducible refine (rcmp_any HN8.out HS8.out HND.out.2).mono ?_); rintro e w9 ⟨cv8, rfl, hc8, hb8⟩; have q8 : decide (cv8 ≤ 0) = false := decide_eq_false (fun e => by have h1 := hc8.1 e; have h2 := HSE.out; omega); have HN9 := Lib.hid (HN8.out.below hb8); have HM9 := Lib.hid ((hb8.block _ (lt_of_heap HM8.out)).trans HM8.out); have HR9 := Lib.hid ((hb8.block _ (lt_of_heap HR8.out)).trans HR8.out); have HB9 := Lib.hid (bTr HB8.out hb8); have HF9 := Lib.hid (HF8.out.below hb8); have HS9 := Lib.hid (HS8.out.below hb8); clear hc8 hb8; obtain ⟨-, k5, k6, -, k8, k9, k10, -, -, f8, f9, f10⟩ := rr_cells HM9.out)
            | (go_at_call 25; (with_reducible refine (rcmp_any HN7.out HF7.out HND.out.2).mono ?_); rintro e w8 ⟨cv7, rfl, hc7, hb7⟩; have q7 : decide (cv7 ≤ 0) = true := decide_eq_true (hc7.2 HLE.out); have HN8 := Lib.hid (HN7.out.below hb7); have HM8 := Lib.hid ((hb7.block _ (lt_of_heap HM7.out)).trans HM7.out); have HR8 := Lib.hid ((hb7.block _ (lt_of_heap HR7.out)).trans HR7.out); have HB8 := Lib.hid (bTr HB7.out hb7); have HF8 := Lib.hid (HF7.out.below hb7); have HS8 := Lib.hid (HS7.out.below hb7); clear hc7 hb7; obtain ⟨-, k5, k6, -, k8, k9, k10, -, -, f8, f9, f10⟩ := rr_cells HM8.out))
          have hMy : (w9.setCell ⟨w.heap.size, 10, none⟩ (.bool mw.sh)).heap[w.heap.size]? = some (.cells (rrow { mw with off := mw.sh } (.slice (some p4) n4 c4) (.slice (some p8) n8 c8)) 39 (0, 0)) := heap_setCell_same _ _ 10 _ _ _ HM9.out
          have hRy : (w9.setCell ⟨w.heap.size, 10, none⟩ (.bool mw.sh)).heap[w.heap.size + 1]? = some (.cells #[.int .i64 0, .int .i64 0, .int .i64 0, .int .i64 0, .bool false, .bool false, .bool false, .int .i64 0, .slice none 0 0, .slice none 0 0, .bool false] 39 (0, 0)) := (heap_setCell_other w9 ⟨w.heap.size, 10, none⟩ _ _ (by simp)).trans HR9.out
          refine ri_ret26 (m := { mw with off := mw.sh }) hMy (by simp [rrow, Value.oneCell']) hRy rfl ?_
          intro _ W' hW'
          have HW' := Lib.hid hW'
          clear hW'
          go_wp2_with fail
          have hW' := HW'.out
          subst hW'
          refine bodyW3 rfl (w.heap.size + 1) (rrow { mw with off := mw.sh } (.slice (some p4) n4 c4) (.slice (some p8) n8 c8)) _ _ _ rfl rfl rfl (setRow_heap _ _ _ _ _ _ hRy) Try.underlying39 rfl (by kernel_rfl) rfl ?_
          have t1 := T1.out
          have t2 := T2.out
          subst t1 t2
          exact ⟨p4, n4, c4, p8, n8, c8, rfl, ((HF9.out.set (i := 10) (u := .bool mw.sh) (by omega)).row (by omega)).down (by omega), ((HS9.out.set (i := 10) (u := .bool mw.sh) (by omega)).row (by omega)).down (by omega), bRow (bSet HB9.out ⟨w.heap.size, 10, none⟩ (Nat.le_refl _) (.bool mw.sh)) _ (by omega) _⟩
      · have ey : ¬ (mw.aw && true) = true := by rw [haw]; decide
        have t1 := HE1.out
        have t2 := HE2.out
        rw [show mw.col need true = 0 by unfold MS.col; rw [if_neg hoff, if_pos (And.intro ey hle)]] at t1
        rw [show mw.took need true = { mw with fi := mw.fi - need } by unfold MS.took; rw [if_neg hoff, if_pos (And.intro ey hle)]] at t2
        have T1 := Lib.hid t1
        have T2 := Lib.hid t2
        clear t1 t2
        clear HE1 HE2
        go_upto_region 21 with (first
          | (go_at_call 25; (with_reducible refine (rcmp_any HN7.out HF7.out HND.out.2).mono ?_); rintro e w8 ⟨cv7, rfl, hc7, hb7⟩; have q7 : decide (cv7 ≤ 0) = true := decide_eq_true (hc7.2 HLE.out); have HN8 := Lib.hid (HN7.out.below hb7); have HM8 := Lib.hid ((hb7.block _ (lt_of_heap HM7.out)).trans HM7.out); have HR8 := Lib.hid ((hb7.block _ (lt_of_heap HR7.out)).trans HR7.out); have HB8 := Lib.hid (bTr HB7.out hb7); have HF8 := Lib.hid (HF7.out.below hb7); have HS8 := Lib.hid (HS7.out.below hb7); clear hc7 hb7; obtain ⟨-, k5, k6, -, k8, k9, k10, -, -, f8, f9, f10⟩ := rr_cells HM8.out)
          | (go_at_call 26; (with_reducible refine (rsub_any HF8.out HN8.out HLE.out HFL.out.1).mono ?_); rintro e wz ⟨vz, rfl, hz, hbz⟩; obtain ⟨pz, nz, cz, rfl⟩ := hz.slice; have HZ := Lib.hid (hz.down HB8.out.size); have HZF := Lib.hid (lt_of_heap HR8.out); have HZ2 := Lib.hid hz; have HMz := Lib.hid ((hbz.block _ (lt_of_heap HM8.out)).trans HM8.out); have HRz := Lib.hid ((hbz.block _ (lt_of_heap HR8.out)).trans HR8.out); have HBz := Lib.hid (bTr HB8.out hbz); have HFz := Lib.hid (HF8.out.below hbz); have HSz := Lib.hid (HS8.out.below hbz); clear hz hbz; obtain ⟨-, -, -, -, k8, k9, -, -, -, f8, f9, -⟩ := rr_cells HMz.out))
        have hMy : (wz.setCell ⟨w.heap.size, 8, none⟩ (.slice (some pz) nz cz)).heap[w.heap.size]? = some (.cells (rrow { mw with fi := mw.fi - need } (.slice (some pz) nz cz) (.slice (some p8) n8 c8)) 39 (0, 0)) := heap_setCell_same _ _ 8 _ _ _ HMz.out
        have hRy : (wz.setCell ⟨w.heap.size, 8, none⟩ (.slice (some pz) nz cz)).heap[w.heap.size + 1]? = some (.cells #[.int .i64 0, .int .i64 0, .int .i64 0, .int .i64 0, .bool false, .bool false, .bool false, .int .i64 0, .slice none 0 0, .slice none 0 0, .bool false] 39 (0, 0)) := (heap_setCell_other wz ⟨w.heap.size, 8, none⟩ _ _ (by simp)).trans HRz.out
        have HZ3 := HZ2.out.down (show w.heap.size + 2 ≤ _ from lt_of_heap HR8.out)
        refine ri_ret21 (m := { mw with fi := mw.fi - need }) hMy (by simp [rrow, Value.oneCell']) hRy rfl ?_
        intro _ W' hW'
        have HW' := Lib.hid hW'
        clear hW'
        go_wp2_with fail
        have hW' := HW'.out
        subst hW'
        refine bodyW3 rfl (w.heap.size + 1) (rrow { mw with fi := mw.fi - need } (.slice (some pz) nz cz) (.slice (some p8) n8 c8)) _ _ _ rfl rfl rfl (setRow_heap _ _ _ _ _ _ hRy) Try.underlying39 rfl (by kernel_rfl) rfl ?_
        have t1 := T1.out
        have t2 := T2.out
        subst t1 t2
        exact ⟨pz, nz, cz, p8, n8, c8, rfl, ((HZ3.set (i := 8) (u := .slice (some pz) nz cz) (by omega)).row (by omega)).down (by omega), ((HSz.out.set (i := 8) (u := .slice (some pz) nz cz) (by omega)).row (by omega)).down (by omega), bRow (bSet HBz.out ⟨w.heap.size, 8, none⟩ (Nat.le_refl _) (.slice (some pz) nz cz)) _ (by omega) _⟩
  · have HLE := Lib.hid hle
    have ey : ¬ (¬ (mw.aw && y) = true ∧ need ≤ mw.fi) := fun h => hle h.2
    by_cases hse : need ≤ mw.se
    · have HSE := Lib.hid hse
      have t1 := HE1.out
      have t2 := HE2.out
      rw [show mw.col need y = 1 by unfold MS.col; rw [if_neg hoff, if_neg (ey), if_pos hse]] at t1
      rw [show mw.took need y = { mw with se := mw.se - need } by unfold MS.took; rw [if_neg hoff, if_neg (ey), if_pos hse]] at t2
      have T1 := Lib.hid t1
      have T2 := Lib.hid t2
      clear t1 t2
      clear HE1 HE2
      go_upto_region 24 with (first
        | (go_at_call 25; (with_reducible refine (rcmp_any HN8.out HS8.out HND.out.2).mono ?_); rintro e w9 ⟨cv8, rfl, hc8, hb8⟩; have q8 : decide (cv8 ≤ 0) = true := decide_eq_true (hc8.2 HSE.out); have HN9 := Lib.hid (HN8.out.below hb8); have HM9 := Lib.hid ((hb8.block _ (lt_of_heap HM8.out)).trans HM8.out); have HR9 := Lib.hid ((hb8.block _ (lt_of_heap HR8.out)).trans HR8.out); have HB9 := Lib.hid (bTr HB8.out hb8); have HF9 := Lib.hid (HF8.out.below hb8); have HS9 := Lib.hid (HS8.out.below hb8); clear hc8 hb8; obtain ⟨-, k5, k6, -, k8, k9, k10, -, -, f8, f9, f10⟩ := rr_cells HM9.out)
        | (go_at_call 25; (with_reducible refine (rcmp_any HN7.out HF7.out HND.out.2).mono ?_); rintro e w8 ⟨cv7, rfl, hc7, hb7⟩; have q7 : decide (cv7 ≤ 0) = false := decide_eq_false (fun e => by have h1 := hc7.1 e; have h2 := HLE.out; omega); have HN8 := Lib.hid (HN7.out.below hb7); have HM8 := Lib.hid ((hb7.block _ (lt_of_heap HM7.out)).trans HM7.out); have HR8 := Lib.hid ((hb7.block _ (lt_of_heap HR7.out)).trans HR7.out); have HB8 := Lib.hid (bTr HB7.out hb7); have HF8 := Lib.hid (HF7.out.below hb7); have HS8 := Lib.hid (HS7.out.below hb7); clear hc7 hb7; obtain ⟨-, k5, k6, -, k8, k9, k10, -, -, f8, f9, f10⟩ := rr_cells HM8.out)
        | (go_at_call 26; (with_reducible refine (rsub_any HS9.out HN9.out HSE.out HFL.out.2).mono ?_); rintro e wz ⟨vz, rfl, hz, hbz⟩; obtain ⟨pz, nz, cz, rfl⟩ := hz.slice; have HZ := Lib.hid (hz.down HB9.out.size); have HZF := Lib.hid (lt_of_heap HR9.out); have HZ2 := Lib.hid hz; have HMz := Lib.hid ((hbz.block _ (lt_of_heap HM9.out)).trans HM9.out); have HRz := Lib.hid ((hbz.block _ (lt_of_heap HR9.out)).trans HR9.out); have HBz := Lib.hid (bTr HB9.out hbz); have HFz := Lib.hid (HF9.out.below hbz); have HSz := Lib.hid (HS9.out.below hbz); clear hz hbz; obtain ⟨-, -, -, -, k8, k9, -, -, -, f8, f9, -⟩ := rr_cells HMz.out))
      have hMy : (wz.setCell ⟨w.heap.size, 9, none⟩ (.slice (some pz) nz cz)).heap[w.heap.size]? = some (.cells (rrow { mw with se := mw.se - need } (.slice (some p4) n4 c4) (.slice (some pz) nz cz)) 39 (0, 0)) := heap_setCell_same _ _ 9 _ _ _ HMz.out
      have hRy : (wz.setCell ⟨w.heap.size, 9, none⟩ (.slice (some pz) nz cz)).heap[w.heap.size + 1]? = some (.cells #[.int .i64 0, .int .i64 0, .int .i64 0, .int .i64 0, .bool false, .bool false, .bool false, .int .i64 0, .slice none 0 0, .slice none 0 0, .bool false] 39 (0, 0)) := (heap_setCell_other wz ⟨w.heap.size, 9, none⟩ _ _ (by simp)).trans HRz.out
      have HZ3 := HZ2.out.down (show w.heap.size + 2 ≤ _ from lt_of_heap HR9.out)
      refine ri_ret24 (m := { mw with se := mw.se - need }) hMy (by simp [rrow, Value.oneCell']) hRy rfl ?_
      intro _ W' hW'
      have HW' := Lib.hid hW'
      clear hW'
      go_wp2_with fail
      have hW' := HW'.out
      subst hW'
      refine bodyW3 rfl (w.heap.size + 1) (rrow { mw with se := mw.se - need } (.slice (some p4) n4 c4) (.slice (some pz) nz cz)) _ _ _ rfl rfl rfl (setRow_heap _ _ _ _ _ _ hRy) Try.underlying39 rfl (by kernel_rfl) rfl ?_
      have t1 := T1.out
      have t2 := T2.out
      subst t1 t2
      exact ⟨p4, n4, c4, pz, nz, cz, rfl, ((HFz.out.set (i := 9) (u := .slice (some pz) nz cz) (by omega)).row (by omega)).down (by omega), ((HZ3.set (i := 9) (u := .slice (some pz) nz cz) (by omega)).row (by omega)).down (by omega), bRow (bSet HBz.out ⟨w.heap.size, 9, none⟩ (Nat.le_refl _) (.slice (some pz) nz cz)) _ (by omega) _⟩
    · have HSE := Lib.hid hse
      have t1 := HE1.out
      have t2 := HE2.out
      rw [show mw.col need y = 2 by unfold MS.col; rw [if_neg hoff, if_neg (ey), if_neg hse]] at t1
      rw [show mw.took need y = { mw with off := mw.sh } by unfold MS.took; rw [if_neg hoff, if_neg (ey), if_neg hse]] at t2
      have T1 := Lib.hid t1
      have T2 := Lib.hid t2
      clear t1 t2
      clear HE1 HE2
      go_upto_region 26 with (first
        | (go_at_call 25; (with_reducible refine (rcmp_any HN8.out HS8.out HND.out.2).mono ?_); rintro e w9 ⟨cv8, rfl, hc8, hb8⟩; have q8 : decide (cv8 ≤ 0) = false := decide_eq_false (fun e => by have h1 := hc8.1 e; have h2 := HSE.out; omega); have HN9 := Lib.hid (HN8.out.below hb8); have HM9 := Lib.hid ((hb8.block _ (lt_of_heap HM8.out)).trans HM8.out); have HR9 := Lib.hid ((hb8.block _ (lt_of_heap HR8.out)).trans HR8.out); have HB9 := Lib.hid (bTr HB8.out hb8); have HF9 := Lib.hid (HF8.out.below hb8); have HS9 := Lib.hid (HS8.out.below hb8); clear hc8 hb8; obtain ⟨-, k5, k6, -, k8, k9, k10, -, -, f8, f9, f10⟩ := rr_cells HM9.out)
        | (go_at_call 25; (with_reducible refine (rcmp_any HN7.out HF7.out HND.out.2).mono ?_); rintro e w8 ⟨cv7, rfl, hc7, hb7⟩; have q7 : decide (cv7 ≤ 0) = false := decide_eq_false (fun e => by have h1 := hc7.1 e; have h2 := HLE.out; omega); have HN8 := Lib.hid (HN7.out.below hb7); have HM8 := Lib.hid ((hb7.block _ (lt_of_heap HM7.out)).trans HM7.out); have HR8 := Lib.hid ((hb7.block _ (lt_of_heap HR7.out)).trans HR7.out); have HB8 := Lib.hid (bTr HB7.out hb7); have HF8 := Lib.hid (HF7.out.below hb7); have HS8 := Lib.hid (HS7.out.below hb7); clear hc7 hb7; obtain ⟨-, k5, k6, -, k8, k9, k10, -, -, f8, f9, f10⟩ := rr_cells HM8.out))
      have hMy : (w9.setCell ⟨w.heap.size, 10, none⟩ (.bool mw.sh)).heap[w.heap.size]? = some (.cells (rrow { mw with off := mw.sh } (.slice (some p4) n4 c4) (.slice (some p8) n8 c8)) 39 (0, 0)) := heap_setCell_same _ _ 10 _ _ _ HM9.out
      have hRy : (w9.setCell ⟨w.heap.size, 10, none⟩ (.bool mw.sh)).heap[w.heap.size + 1]? = some (.cells #[.int .i64 0, .int .i64 0, .int .i64 0, .int .i64 0, .bool false, .bool false, .bool false, .int .i64 0, .slice none 0 0, .slice none 0 0, .bool false] 39 (0, 0)) := (heap_setCell_other w9 ⟨w.heap.size, 10, none⟩ _ _ (by simp)).trans HR9.out
      refine ri_ret26 (m := { mw with off := mw.sh }) hMy (by simp [rrow, Value.oneCell']) hRy rfl ?_
      intro _ W' hW'
      have HW' := Lib.hid hW'
      clear hW'
      go_wp2_with fail
      have hW' := HW'.out
      subst hW'
      refine bodyW3 rfl (w.heap.size + 1) (rrow { mw with off := mw.sh } (.slice (some p4) n4 c4) (.slice (some p8) n8 c8)) _ _ _ rfl rfl rfl (setRow_heap _ _ _ _ _ _ hRy) Try.underlying39 rfl (by kernel_rfl) rfl ?_
      have t1 := T1.out
      have t2 := T2.out
      subst t1 t2
      exact ⟨p4, n4, c4, p8, n8, c8, rfl, ((HF9.out.set (i := 10) (u := .bool mw.sh) (by omega)).row (by omega)).down (by omega), ((HS9.out.set (i := 10) (u := .bool mw.sh) (by omega)).row (by omega)).down (by omega), bRow (bSet HB9.out ⟨w.heap.size, 10, none⟩ (Nat.le_refl _) (.bool mw.sh)) _ (by omega) _⟩


end Go.Proofs.Ytjkgeoipkcjobaa
