/- For every setup, every time and every slice of steps MeterRuns answers true. No condition. Written by gen_mrlaw.py. -/
import Derived.Test.YtjkgeoipkcjobaaMrLaw
namespace Go.Proofs.Ytjkgeoipkcjobaa
open Go.RowKit Go.Joins Go.Deep

/-- What stands between two rounds. -/
def MRel (w : World) (b rb n : Nat) (kv : Value) (wr : World) : Prop :=
  ∃ (k : Nat) (m : MS) (pa pb : Addr) (na ca nb cb : Nat), kv = .int .i64 (k : Int) ∧ k ≤ n ∧ Mtr wr b m ∧ m.Good ∧ wr.heap[rb]? = some (.cells (rrow m (.slice (some pa) na ca) (.slice (some pb) nb cb)) 39 (0, 0)) ∧ Kp rb b wr (.slice (some pa) na ca) m.fi ∧ Kp rb b wr (.slice (some pb) nb cb) m.se ∧ Below w.heap.size w wr
theorem step_cells {W : World} {sb : Nat} {z0 z1 : Int} {z2 : Bool} (h : W.heap[sb]? = some (.cells #[.int .i64 z0, .int .i64 z1, .bool z2] 42 (0, 0))) : W.cell? ⟨sb, 0, none⟩ = some (.int .i64 z0) ∧ W.cell? ⟨sb, 1, none⟩ = some (.int .i64 z1) ∧ W.cell? ⟨sb, 2, none⟩ = some (.bool z2) := ⟨cell_of_row _ _ _ _ _ _ h, cell_of_row _ _ _ _ _ _ h, cell_of_row _ _ _ _ _ _ h⟩
set_option maxRecDepth 1000000 in
set_option maxHeartbeats 16000000 in
theorem mr_ok (r bu mo be : Int) (cp aw sh : Bool) (now : Int) (p : Option Addr) (n c : Nat) (w : World) (hn : n ≤ 80) (ho : okC r bu mo be) (t0 : 0 ≤ now) (t1 : now ≤ 1099511627776) (ha : SlArg 3 Oksandglasslaw10Step w (.slice p n c) n) : Calls Try.prog 3 #[CV r bu mo be cp aw sh, .int .i64 now, .slice p n c] w fun e w' => e = .returned (.bool true) ∧ Below w.heap.size w w' := by
  have HH := Lib.hid head_ret
  have HN := Lib.hid (fun W => new_ok r bu mo be now cp aw sh W ho t0 t1)
  have hri := fun W => rright_any r bu mo be cp aw sh W
  rw [decide_eq_true ho] at hri
  have HRI := Lib.hid hri
  have HRN := Lib.hid (fun W => rnew_any r bu mo be now cp aw sh W ho)
  have K0 := Lib.hid (CB.new w r bu mo be cp aw sh)
  have G0 := Lib.hid (M0_good (cp := cp) (aw := aw) (sh := sh) ho t0 t1)
  have d : decide ((80 : Int) < (n : Int)) = false := decide_eq_false (by omega)
  have d1 : decide (now < 0) = false := decide_eq_false (by omega)
  have d2 : decide (1099511627776 < now) = false := decide_eq_false (by omega)
  have HA := Lib.hid ha
  have Hn := Lib.hid hn
  clear hn ho t0 t1 ha hri
  go_enter Try.func3, Try.ntmps3
  go_upto_region 14 with (first
    | (go_at_call 8; (with_reducible refine (HH.out _).mono ?_); rintro e w1 ⟨rfl, hb⟩; have HB := Lib.hid (bTr (bAl (bRef w) _) hb); have K1 := Lib.hid (K0.out.below hb); obtain ⟨k0, k1, k2, k3, k4, k5, k6, -⟩ := K1.out.cells; clear hb)
    | (go_at_call 9; (with_reducible refine (HN.out _).mono ?_); rintro e w2 ⟨b, rfl, hm, hb0, hb⟩; have HB2 := Lib.hid (bTr HB.out hb); have K2 := Lib.hid (K1.out.below hb); have HM2 := Lib.hid hm; have HWB : Hid (w.heap.size ≤ b) := Lib.hid (Nat.le_trans HB.out.size hb0); obtain ⟨k0, k1, k2, k3, k4, k5, k6, -⟩ := K2.out.cells; clear hm hb0 hb; try dsimp only)
    | (go_at_call 10; (with_reducible refine (HRI.out _).mono ?_); rintro e w3 ⟨rfl, hb⟩; have HB3 := Lib.hid (bTr HB2.out hb); have K3 := Lib.hid (K2.out.below hb); have HM3 := Lib.hid (HM2.out.below hb); obtain ⟨k0, k1, k2, k3, k4, k5, k6, -⟩ := K3.out.cells; clear hb)
    | (go_at_call 15; (with_reducible refine (HRN.out _).mono ?_); rintro e w4 ⟨pa, na, ca, pb, nb, cb, rfl, hf, hs, hb⟩; have HB4 := Lib.hid (bTr HB3.out hb); have HM4 := Lib.hid (HM3.out.below hb); have HF4 := Lib.hid (Kp.early (rb := w4.heap.size) hf (Nat.le_refl _) HM3.out.lt); have HS4 := Lib.hid (Kp.early (rb := w4.heap.size) hs (Nat.le_refl _) HM3.out.lt); clear hf hs hb)
    | ((with_reducible refine at_storeRM ?_); refine wpList_storeNW rfl _ _ _ rfl w4.heap.size rfl (rrow (M0 r bu mo be now cp aw sh) (.slice (some pa) na ca) (.slice (some pb) nb cb)) _ _ rfl rfl (by simp [rrow, Value.oneCell']) (by kernel_rfl) rfl ?_))
  have hB5 := bAl HB4.out (.cells (rrow (M0 r bu mo be now cp aw sh) (.slice (some pa) na ca) (.slice (some pb) nb cb)) 39 (0, 0))
  have hba := bAl (bRef w4) (.cells (rrow (M0 r bu mo be now cp aw sh) (.slice (some pa) na ca) (.slice (some pb) nb cb)) 39 (0, 0))
  have hR5 := heap_alloc_new w4 (.cells (rrow (M0 r bu mo be now cp aw sh) (.slice (some pa) na ca) (.slice (some pb) nb cb)) 39 (0, 0))
  have hM5 := HM4.out.below hba
  have hF5 := HF4.out.below hba
  have hS5 := HS4.out.below hba
  have hbr := HM4.out.lt
  have hwr := HB4.out.size
  generalize w4.alloc (.cells (rrow (M0 r bu mo be now cp aw sh) (.slice (some pa) na ca) (.slice (some pb) nb cb)) 39 (0, 0)) = w5 at *
  generalize w4.heap.size = rb at *
  have HBR : Hid (b < rb ∧ w.heap.size ≤ rb ∧ w.heap.size ≤ b) := Lib.hid ⟨hbr, hwr, HWB.out⟩
  have H5 : Hid (MRel w b rb n (.int .i64 0) w5) := Lib.hid ⟨0, _, _, _, _, _, _, _, rfl, Nat.zero_le _, hM5, G0.out, hR5, hF5, hS5, hB5⟩
  clear hB5 hba hR5 hM5 hF5 hS5 hbr hwr HB4 HM4 HF4 HS4 HB3 K3 HM3 HB2 K2 HM2 HB K1 K0 HN HRI HRN G0 HH k0 k1 k2 k3 k4 k5 k6 d d1 d2
  go_wp2_with fail
  go_loopw [91] (fun kv wr => MRel w b rb n kv wr) (fun kv _ => n - (intOf kv).toNat)
  case atStart => exact H5.out
  case round =>
    clear H5
    obtain ⟨k, m, qa, qb, ma, da, mb, db, rfl, hk, hm, hg, hr, hf, hs, hb⟩ := hrel
    have HM := Lib.hid hm
    have HG := Lib.hid hg
    have HR := Lib.hid hr
    have HF := Lib.hid hf
    have HS := Lib.hid hs
    have HB := Lib.hid hb
    clear hm hg hr hf hs hb
    have hn80 := Hn.out
    rcases Nat.lt_or_ge k n with g1 | g1
    · have hd : decide ((k : Int) < (n : Int)) = true := decide_eq_true (by omega)
      obtain ⟨ab, o, F, rfl, hab, hF⟩ := SlArg.at HA.out (by omega)
      obtain ⟨⟨z0, z1, z2, hz, b0, b1⟩, hlen, hc⟩ := hF k g1
      rw [hz] at hc
      have c0 := (HB.out.cell (p := ⟨ab, o + k * 3 + 0, none⟩) hab).trans (hc 0 (by omega))
      have c1 := (HB.out.cell (p := ⟨ab, o + k * 3 + 1, none⟩) hab).trans (hc 1 (by omega))
      have c2 := (HB.out.cell (p := ⟨ab, o + k * 3 + 2, none⟩) hab).trans (hc 2 (by omega))
      rw [Nat.add_zero] at c0
      simp only [List.getElem?_cons_zero, List.getElem?_cons_succ] at c0 c1 c2
      clear hF hc hlen hz F hab b0 b1
      have hba := bAl (bRef wr) (.cells #[.int .i64 z0, .int .i64 z1, .bool z2] 42 (0, 0))
      by_cases hz1 : z1 = -1
      · subst hz1
        go_upto_region 19 with (go_at_call 13; (with_reducible refine (open_any (HM.out.below hba)).mono ?_); rintro e w6 ⟨rfl, hm, hb⟩; have HM6 := Lib.hid hm; have HBU := Lib.hid hb; have HR6 := Lib.hid ((hb.block rb (lt_of_heap ((hba.block _ (lt_of_heap HR.out)).trans HR.out)) (by have := HBR.out; omega)).trans ((hba.block _ (lt_of_heap HR.out)).trans HR.out)); obtain ⟨-, -, -, -, -, -, k10, -, -, -, -, f10⟩ := rr_cells HR6.out; clear hm hb)
        go_wp2_with fail
        have hbr := HBR.out
        have hMy : Mtr (w6.setCell ⟨rb, 10, none⟩ (.bool false)) b { m with off := false } := (heap_setCell_other w6 ⟨rb, 10, none⟩ b _ (by show b ≠ rb; omega)).trans HM6.out
        have hRy : (w6.setCell ⟨rb, 10, none⟩ (.bool false)).heap[rb]? = some (.cells (rrow { m with off := false } (.slice (some qa) ma da) (.slice (some qb) mb db)) 39 (0, 0)) := heap_setCell_same _ _ 10 _ _ _ HR6.out
        have hB6 := (HB.out.trans (hba.mono HB.out.size)).trans (HBU.out.below hbr.2.2 (HM.out.below hba).lt)
        exact ⟨⟨k + 1, _, qa, qb, ma, da, mb, db, by go_num, by omega, hMy, HG.out.opened false, hRy, ((HF.out.below hba).but HBU.out).cell 10 _, ((HS.out.below hba).but HBU.out).cell 10 _, bSet hB6 ⟨rb, 10, none⟩ hbr.2.1 _⟩, by simp [intOf]; omega⟩
      · have dz : decide (z1 = -1) = false := decide_eq_false hz1
        have dw : (z1 == -1) = false := beq_eq_false_iff_ne.mpr hz1
        obtain ⟨m', T, f, hg', hri, hpi⟩ := both_any rb b HG.out z0 z1 z2
        have HG' := Lib.hid hg'
        have HRI := Lib.hid hri
        have HPI := Lib.hid hpi
        clear hg' hri hpi hz1
        go_upto_region 20 with fail
        have hS1 := heap_alloc_new wr (.cells #[.int .i64 z0, .int .i64 z1, .bool z2] 42 (0, 0))
        have hR1 := (hba.block _ (lt_of_heap HR.out)).trans HR.out
        have hM1 := HM.out.below hba
        have hF1 := HF.out.below hba
        have hQ1 := HS.out.below hba
        have hB1 := HB.out.trans (hba.mono HB.out.size)
        have hsb : rb < wr.heap.size := lt_of_heap HR.out
        clear hba dz dw c0 c1 c2
        generalize wr.alloc (.cells #[.int .i64 z0, .int .i64 z1, .bool z2] 42 (0, 0)) = W1 at *
        generalize wr.heap.size = sb at *
        have HS1 := Lib.hid hS1
        have HR1 := Lib.hid hR1
        have HM1 := Lib.hid hM1
        have HF1 := Lib.hid hF1
        have HQ1 := Lib.hid hQ1
        have HB1 := Lib.hid hB1
        have HSB := Lib.hid hsb
        obtain ⟨s0, s1, s2⟩ := step_cells hS1
        clear hS1 hR1 hM1 hF1 hQ1 hB1 hsb
        go_upto_region 22 with (first
          | ((with_reducible refine at_loadRM ?_); refine wpList_loadW rfl _ _ rfl rb 0 rfl (rrow m (.slice (some qa) ma da) (.slice (some qb) mb db)) _ (range_whole HR1.out) Try.underlying39 rfl (by kernel_rfl) ?_)
          | (go_at_call 16; (with_reducible refine (HRI.out.call (lt_of_heap HR1.out) HM1.out.lt HF1.out HQ1.out).mono ?_); rintro e w2 ⟨p1, n1, e1, p2, n2, e2, rfl, hf, hs, hb⟩; have HF2 := Lib.hid hf; have HQ2 := Lib.hid hs; have HB2 := Lib.hid hb; have HR2 := Lib.hid ((hb.block _ (lt_of_heap HR1.out)).trans HR1.out); clear hf hs hb; try dsimp only)
          | ((with_reducible refine at_storeRM ?_); refine wpList_storeNW rfl _ _ _ rfl w2.heap.size rfl (rrow m' (.slice (some p1) n1 e1) (.slice (some p2) n2 e2)) _ _ rfl rfl (by simp [rrow, Value.oneCell']) (by kernel_rfl) rfl ?_)
          | ((with_reducible refine at_loadRM ?_); refine wpList_loadW rfl _ _ rfl w2.heap.size 0 rfl (rrow m' (.slice (some p1) n1 e1) (.slice (some p2) n2 e2)) _ (range_whole (heap_alloc_new w2 _)) Try.underlying39 rfl (by kernel_rfl) ?_)
          | ((with_reducible refine at_storeRM ?_); refine wpList_store_row rfl _ _ _ rfl rb (rrow m' (.slice (some p1) n1 e1) (.slice (some p2) n2 e2)) rfl rfl _ _ (((bAl (bRef w2) _).block _ (lt_of_heap HR2.out)).trans HR2.out) (by kernel_rfl) rfl (by simp [rrow, Value.oneCell']) ?_))
        have hba := bAl (bRef w2) (.cells (rrow m' (.slice (some p1) n1 e1) (.slice (some p2) n2 e2)) 39 (0, 0))
        have hR3 := (hba.block _ (lt_of_heap HR2.out)).trans HR2.out
        have hM3 := (HM1.out.below HB2.out).below hba
        have hF3 := HF2.out.below hba
        have hQ3 := HQ2.out.below hba
        have hS3 := (hba.block _ (lt_of_heap ((HB2.out.block _ (lt_of_heap HS1.out)).trans HS1.out))).trans ((HB2.out.block _ (lt_of_heap HS1.out)).trans HS1.out)
        have hB3 := (HB1.out.trans (HB2.out.mono HB1.out.size)).trans (hba.mono (Nat.le_trans HB1.out.size HB2.out.size))
        generalize w2.alloc (.cells (rrow m' (.slice (some p1) n1 e1) (.slice (some p2) n2 e2)) 39 (0, 0)) = w3 at *
        have hbr := HBR.out
        have hsb := HSB.out
        have hR4 : (w3.setRow rb (rrow m' (.slice (some p1) n1 e1) (.slice (some p2) n2 e2))).heap[rb]? = some (.cells (rrow m' (.slice (some p1) n1 e1) (.slice (some p2) n2 e2)) 39 (0, 0)) := setRow_heap _ _ _ _ _ _ hR3
        have hM4 : Mtr (w3.setRow rb (rrow m' (.slice (some p1) n1 e1) (.slice (some p2) n2 e2))) b m := (setRow_other w3 rb b _ (by omega)).trans hM3
        have hS4 : (w3.setRow rb (rrow m' (.slice (some p1) n1 e1) (.slice (some p2) n2 e2))).heap[sb]? = some (.cells #[.int .i64 z0, .int .i64 z1, .bool z2] 42 (0, 0)) := (setRow_other w3 rb sb _ (by omega)).trans hS3
        have hF4 := hF3.row (rrow m' (.slice (some p1) n1 e1) (.slice (some p2) n2 e2))
        have hQ4 := hQ3.row (rrow m' (.slice (some p1) n1 e1) (.slice (some p2) n2 e2))
        have hB4 := bRow hB3 rb hbr.2.1 (rrow m' (.slice (some p1) n1 e1) (.slice (some p2) n2 e2))
        clear hba hR3 hM3 hF3 hQ3 hS3 hB3 hsb s0 s1 s2 HR2 HF2 HQ2 HB2 HS1 HR1 HM1 HF1 HQ1 HB1
        generalize w3.setRow rb (rrow m' (.slice (some p1) n1 e1) (.slice (some p2) n2 e2)) = w4 at *
        have HR4 := Lib.hid hR4
        have HM4 := Lib.hid hM4
        have HF4 := Lib.hid hF4
        have HQ4 := Lib.hid hQ4
        have HB4 := Lib.hid hB4
        obtain ⟨s0, s1, s2⟩ := step_cells hS4
        clear hR4 hM4 hF4 hQ4 hB4 hS4 hbr
        go_upto_region 24 with (first
          | (go_at_call 11; (with_reducible refine (HPI.out.call HM4.out).mono ?_); rintro e w5 ⟨rfl, hm, hb⟩; have HM5 := Lib.hid hm; have HR5 := Lib.hid ((hb.block _ (lt_of_heap HR4.out) (by have := HBR.out; omega)).trans HR4.out); have HF5 := Lib.hid (HF4.out.but hb); have HQ5 := Lib.hid (HQ4.out.but hb); have HB5 := Lib.hid (HB4.out.trans (hb.below HBR.out.2.2 HM4.out.lt)); clear hm hb; try dsimp only)
          | (go_at_call 12; (with_reducible refine (bits_any HM5.out HG'.out).mono ?_); rintro e w6 ⟨rfl, hb⟩; have HM6 := Lib.hid (HM5.out.below hb); have HR6 := Lib.hid ((hb.block _ (lt_of_heap HR5.out)).trans HR5.out); have HF6 := Lib.hid (HF5.out.below hb); have HQ6 := Lib.hid (HQ5.out.below hb); have HB6 := Lib.hid (HB5.out.trans (hb.mono HB5.out.size)); clear hb; try dsimp only))
        refine mr_r24 HR6.out HM6.out HG'.out HF6.out HQ6.out (fun _ _ kx _ _ h => by cases kx <;> exact h) ?_
        intro z130 z131 z132 z133 z134 z135 z136 z137 z138 z139 z140 z141 z142 z143 z144 z145 z146 z147 z148 z149 z150 z151 z152 z153 z154 z155 z156 z157 w7 hb7
        have HB7 := Lib.hid hb7
        clear hb7
        go_wp2_with fail
        exact ⟨⟨k + 1, m', p1, p2, n1, e1, n2, e2, by go_num, by omega, HM6.out.below HB7.out, HG'.out, (HB7.out.block _ (lt_of_heap HR6.out)).trans HR6.out, HF6.out.below HB7.out, HQ6.out.below HB7.out, HB6.out.trans (HB7.out.mono HB6.out.size)⟩, by simp [intOf]; omega⟩
    · obtain rfl : k = n := by omega
      have hd : decide ((k : Int) < (k : Int)) = false := decide_eq_false (by omega)
      go_wp2_with fail
      go_ret
      exact ⟨rfl, HB.out⟩

theorem meterRuns_holds : Rows.MeterRunsSaid := meterRuns_of (fun r bu mo be cp aw sh now v n w _ _ _ _ _ ha => by
  obtain ⟨p, c, rfl⟩ := ha.slice
  by_cases hn : 80 < n
  · exact mr_many r bu mo be cp aw sh now p n c w hn
  by_cases h : okC r bu mo be
  · by_cases h0 : now < 0
    · exact mr_bad_b r bu mo be cp aw sh now p n c w (by omega) h h0
    · by_cases h1 : 1099511627776 < now
      · exact mr_bad_c r bu mo be cp aw sh now p n c w (by omega) h h1
      · exact mr_ok r bu mo be cp aw sh now p n c w (by omega) h (by omega) (by omega) ha
  · exact mr_bad_a r bu mo be cp aw sh now p n c w (by omega) h)

end Go.Proofs.Ytjkgeoipkcjobaa
