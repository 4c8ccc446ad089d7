/- For every setup and every slice of steps MergeAdds answers true: what passes its way comes to all of them together, nothing else. No condition. -/
import Derived.Test.YtkapklgimcmhdaaFMergeAdds
import Derived.Test.YtkapklgimcmhdaaMgAdd
namespace Go.Proofs.Ytkapklgimcmhdaa
open Go.RowKit Go.Joins

theorem madds_many (ways w1 l1 r1 w2 l2 r2 every limit : Int) (p : Option Addr) (n c : Nat) (w : World) (h : 80 < n) :
    Calls Try.prog 12 #[MV ways w1 l1 r1 w2 l2 r2 every limit, .slice p n c] w fun e w' => e = .returned (.bool true) ∧ Below w.heap.size w w' := by
  have HH := Lib.hid mhead_ret
  have d : decide ((80 : Int) < (n : Int)) = true := decide_eq_true (by omega)
  clear h
  go_enter Try.func12, Try.ntmps12
  go_wp2_with (go_at_call 27; (with_reducible refine (HH.out _).mono ?_); rintro e x1 ⟨rfl, hb⟩; have HB := Lib.hid (bTr (bAl (bRef w) _) hb); clear hb)
  go_ret
  exact ⟨rfl, HB.out⟩
theorem madds_bad (ways w1 l1 r1 w2 l2 r2 every limit : Int) (p : Option Addr) (n c : Nat) (w : World) (h : n ≤ 80) (ho : ¬ okM ways w1 l1 r1 w2 l2 r2 every limit) :
    Calls Try.prog 12 #[MV ways w1 l1 r1 w2 l2 r2 every limit, .slice p n c] w fun e w' => e = .returned (.bool true) ∧ Below w.heap.size w w' := by
  have HH := Lib.hid mhead_ret
  have HN := Lib.hid (fun W => mnew_no ways w1 l1 r1 w2 l2 r2 every limit 0 W ho)
  have d : decide ((80 : Int) < (n : Int)) = false := decide_eq_false (by omega)
  have K0 := Lib.hid (MB.new w ways w1 l1 r1 w2 l2 r2 every limit)
  clear h ho
  go_enter Try.func12, Try.ntmps12
  go_wp2_with (first
    | (go_at_call 27; (with_reducible refine (HH.out _).mono ?_); rintro e x1 ⟨rfl, hb⟩; have HB := Lib.hid (bTr (bAl (bRef w) _) hb); obtain ⟨k0, k1, k2, k3, k4, k5, k6, k7, k8⟩ := (K0.out.below hb).cells; clear hb)
    | (go_at_call 28; (with_reducible refine (HN.out _).mono ?_); rintro e x2 ⟨rfl, hb⟩; have HB2 := Lib.hid (bTr HB.out hb); clear hb))
  go_ret
  exact ⟨rfl, HB2.out⟩
def MaddRel (w : World) (b lo hi n N : Nat) (w1 l1 r1 w2 l2 r2 every limit : Int) (tv kv : Value) (wr : World) : Prop :=
  ∃ (k : Nat) (m : MG) (t : Int), kv = .int .i64 (k : Int) ∧ tv = .int .i64 t ∧ k ≤ n ∧ Mg wr b lo hi m ∧ AddI m k t ∧ m.n = N ∧ MB wr w.heap.size (N : Int) w1 l1 r1 w2 l2 r2 every limit ∧ w.heap.size < lo ∧ Below w.heap.size w wr
def MaddEnd (w : World) (b lo hi N : Nat) (m : MG) (w1 l1 r1 w2 l2 r2 every limit : Int) (pv iv : Value) (wr : World) : Prop :=
  ∃ i : Nat, iv = .int .i64 (i : Int) ∧ i ≤ N ∧ pv = .int .i64 (SumT m.ones i) ∧ Mg wr b lo hi m ∧ MB wr w.heap.size (N : Int) w1 l1 r1 w2 l2 r2 every limit ∧ Below w.heap.size w wr
theorem sumT_bound {m : MG} {k : Nat} {t : Int} (h : AddI m k t) : ∀ j, j ≤ m.n → 0 ≤ SumT m.ones j ∧ SumT m.ones j ≤ (j : Int) * (k : Int)
  | 0, _ => ⟨Int.le_refl _, by show (0 : Int) ≤ _; omega⟩
  | j + 1, hj => by
    have ih := sumT_bound h j (by omega)
    obtain ⟨q, hq, hc⟩ := h.ones j (by omega)
    have := hc.c0
    have := hc.c1
    have := hc.c2
    have := hc.c3
    have := hc.sum
    show 0 ≤ SumT m.ones j + _ ∧ SumT m.ones j + _ ≤ _
    have e : ((j + 1 : Nat) : Int) * (k : Int) = (j : Int) * (k : Int) + (k : Int) := by rw [Int.natCast_add, Int.add_mul]; simp
    rw [e]
    generalize (j : Int) * (k : Int) = z at *
    omega
set_option maxRecDepth 20000 in
set_option maxHeartbeats 8000000 in
theorem madds_ok (N : Nat) (w1 l1 r1 w2 l2 r2 every limit : Int) (p : Option Addr) (n c : Nat) (w : World) (hn : n ≤ 80) (h : okM (N : Int) w1 l1 r1 w2 l2 r2 every limit) (ha : SlArg 4 Oksandglasslaw14Step w (.slice p n c) n) :
    Calls Try.prog 12 #[MV (N : Int) w1 l1 r1 w2 l2 r2 every limit, .slice p n c] w fun e w' => e = .returned (.bool true) ∧ Below w.heap.size w w' := by
  have HH := Lib.hid mhead_ret
  have d : decide ((80 : Int) < (n : Int)) = false := decide_eq_false (by omega)
  have HN := Lib.hid (fun W => mnew_ok N w1 l1 r1 w2 l2 r2 every limit 0 W h (by decide) (by decide))
  have K0 := Lib.hid (MB.new w (N : Int) w1 l1 r1 w2 l2 r2 every limit)
  have HA := Lib.hid ha
  have Hn := Lib.hid hn
  have HN8 : Hid (1 ≤ N ∧ N ≤ 8) := Lib.hid (by have := h.1; omega)
  have HAI : Hid (AddI (M0 N every limit 0 (Q0 w1 l1 r1 0) (Q0 w2 l2 r2 0)) 0 0) := Lib.hid (AddI.start HN8.out.1 HN8.out.2 (Q0_good h.2.2.2.1 (by decide) (by decide)) (Q0_good h.2.2.2.2 (by decide) (by decide)) (Q0_cnt _ _ _ _) (Q0_cnt _ _ _ _))
  clear h ha hn
  go_enter Try.func12, Try.ntmps12
  go_wp2_with (first
    | (go_at_call 27; (with_reducible refine (HH.out _).mono ?_); rintro e x1 ⟨rfl, hb⟩; have HB := Lib.hid (bTr (bAl (bRef w) _) hb); have K1 := Lib.hid (K0.out.below hb); obtain ⟨k0, k1, k2, k3, k4, k5, k6, k7, k8⟩ := K1.out.cells; clear hb)
    | (go_at_call 28; (with_reducible refine (HN.out _).mono ?_); rintro e x2 ⟨b, lo, rfl, hlo, hm, hb⟩; have HM2 := Lib.hid hm; have HLO : Hid (w.heap.size < lo) := Lib.hid (by have := K1.out.lt; omega); have K2 := Lib.hid (K1.out.below hb); have HB2 := Lib.hid (bTr HB.out hb); clear hlo hm hb))
  go_loopw [7, 30] (fun tv kv wr => MaddRel w b lo x2.heap.size n N w1 l1 r1 w2 l2 r2 every limit tv kv wr) (fun _ kv _ => n - (intOf kv).toNat)
  case atStart => exact ⟨0, _, 0, rfl, rfl, by omega, HM2.out, HAI.out, rfl, K2.out, HLO.out, HB2.out⟩
  case round =>
    clear HM2 HAI K2 HB2 HLO K1 HB K0 HN k0 k1 k2 k3 k4 k5 k6 k7 k8
    obtain ⟨k, m, t, rfl, rfl, hk, hm, hai, hnn, hmb, hlo, hb⟩ := hrel
    have HM := Lib.hid hm
    have HI := Lib.hid hai
    have HNN := Lib.hid hnn
    have HMB := Lib.hid hmb
    have HLo := Lib.hid hlo
    have HB := Lib.hid hb
    have hn80 := Hn.out
    have hbt := hai.bound
    clear hm hai hmb hlo hb hnn
    rcases Nat.lt_or_ge k n with g1 | g1
    · have hd : decide ((k : Int) < (n : Int)) = true := decide_eq_true (by omega)
      obtain ⟨ab, o, F, rfl, hab, hF⟩ := SlArg.at HA.out (by omega)
      obtain ⟨⟨z0, z1, z2, z3, hz, b1, b2, b3⟩, hlen, hc⟩ := hF k g1
      rw [hz] at hc
      have c0 := (HB.out.cell (p := ⟨ab, o + k * 4 + 0, none⟩) hab).trans (hc 0 (by omega))
      have c1 := (HB.out.cell (p := ⟨ab, o + k * 4 + 1, none⟩) hab).trans (hc 1 (by omega))
      have c2 := (HB.out.cell (p := ⟨ab, o + k * 4 + 2, none⟩) hab).trans (hc 2 (by omega))
      have c3 := (HB.out.cell (p := ⟨ab, o + k * 4 + 3, none⟩) hab).trans (hc 3 (by omega))
      rw [Nat.add_zero] at c0
      simp only [List.getElem?_cons_zero, List.getElem?_cons_succ] at c0 c1 c2 c3
      clear hF hc hlen hz F hab
      have HTop := Lib.hid HM.out.top
      have key : ∃ (T : Bool) (v : Int) (m2 : MG), (∀ W, Mg W b lo x2.heap.size m → Calls Try.prog 30 #[.pointer (some ⟨b, 0, none⟩), .int .i64 z1, .int .i64 z2, .int .i64 z3] W fun e w' => e = .returned (.tuple #[.bool T, .int .i64 v]) ∧ Mg w' b lo x2.heap.size m2 ∧ ButI lo x2.heap.size W w') ∧ AddI m2 (k + 1) (t + if T then 1 else 0) ∧ m2.n = N := by
        by_cases hw : z2 < 0 ∨ (m.n : Int) ≤ z2
        · exact ⟨false, 40, m, fun W hW => (min_port hW z1 z2 z3 hw).mono (fun e w' ⟨h1, h2⟩ => ⟨h1, by rw [h2]; exact hW, by rw [h2]; exact ButI.refl _ _ _⟩), by simpa using HI.out.later, HNN.out⟩
        obtain ⟨y, hy⟩ : ∃ y : Nat, z2 = (y : Int) := ⟨z2.toNat, by omega⟩
        subst hy
        by_cases hs : z3 < 0 ∨ 65536 ≤ z3
        · exact ⟨false, 1, m, fun W hW => (min_bad hW z1 z3 y (by omega) hs).mono (fun e w' ⟨h1, h2⟩ => ⟨h1, by rw [h2]; exact hW, by rw [h2]; exact ButI.refl _ _ _⟩), by simpa using HI.out.later, HNN.out⟩
        · refine ⟨decide (m.told z1 y z3), 0, m.into z1 y z3, fun W hW => min_ok hW HI.out.g z1 z3 y (by omega) b1.1 b1.2 (by omega) (by omega), ?_, (into_n _ _ _ _).trans HNN.out⟩
          have := HI.out.into (by omega) (way := y) (now := z1) (seq := z3) (by omega) b1.1 b1.2 (by omega) (by omega)
          simpa using this
      obtain ⟨T, v, m2, hI, hai2, hn2⟩ := key
      have HIn := Lib.hid hI
      have HI2 := Lib.hid hai2
      have HN2 := Lib.hid hn2
      have e1 : wrap64 (t + 1) = t + 1 := by unfold wrap64; omega
      clear hI hai2 hn2 b1 b2 b3
      cases T
      all_goals
        go_wp2_with (go_at_call 30; (with_reducible refine (HIn.out _ (HM.out.alloc _)).mono ?_); rintro e x3 ⟨rfl, hm, hb⟩; have HM3 := Lib.hid hm; have HMB3 := Lib.hid ((HMB.out.below (bAl (bRef _) _)).butI hb (by have := HLo.out; omega)); have HB3 := Lib.hid ((HB.out.alloc HB.out.size _).trans (hb.below (Nat.le_of_lt HLo.out) (HM.out.alloc _).top.1 (by have := HTop.out; omega))); clear hm hb)
        go_roundw
        case rel => exact ⟨k + 1, m2, _, by go_num, by simp [e1], by omega, HM3.out, HI2.out, HN2.out, HMB3.out, HLo.out, HB3.out⟩
        case measure => simp [intOf]; omega
    · obtain rfl : k = n := by omega
      have hd : decide ((k : Int) < (k : Int)) = false := decide_eq_false (by omega)
      go_wp2_with fail
      go_loopw [12, 13] (fun pv iv wr => MaddEnd w b lo x2.heap.size N m w1 l1 r1 w2 l2 r2 every limit pv iv wr) (fun _ iv _ => N - (intOf iv).toNat)
      case atStart => exact ⟨0, rfl, by omega, rfl, HM.out, HMB.out, HB.out⟩
      case round =>
        clear HM HMB HB
        obtain ⟨i, rfl, hi, rfl, hm, hmb, hb⟩ := hrel
        have HM := Lib.hid hm
        have HMB := Lib.hid hmb
        have HB := Lib.hid hb
        obtain ⟨q0, -⟩ := hmb.cells
        clear hm hmb hb
        obtain ⟨hN1, hN8⟩ := HN8.out
        have hnn := HNN.out
        have hbs := sumT_bound HI.out i (by omega)
        have hki : (i : Int) * (k : Int) ≤ 640 := by
          have h1 : (i : Int) * (k : Int) ≤ 8 * 80 := Int.mul_le_mul (by omega) (by omega) (by omega) (by omega)
          omega
        rcases Nat.lt_or_ge i N with g2 | g2
        · have hd2 : decide ((i : Int) < (N : Int)) = true := decide_eq_true (by omega)
          have HQ := mcounts_any HM.out i (by omega)
          obtain ⟨q, hq, hc⟩ := HI.out.ones i (by omega)
          have y0 := hc.c0
          have y1 := hc.c1
          have y2 := hc.c2
          have y3 := hc.c3
          have y4 := hc.sum
          have eS : SumT m.ones (i + 1) = SumT m.ones i + ((m.ones i).c0 + (m.ones i).c3) := rfl
          rw [show m.counts i = m.ones i by unfold MG.counts; rw [if_pos (by omega)]] at HQ
          generalize hS0 : SumT m.ones i = S at *
          generalize (m.ones i).c0 = v0 at *
          generalize (m.ones i).c1 = v1 at *
          generalize (m.ones i).c2 = v2 at *
          generalize (m.ones i).c3 = v3 at *
          have e1 : wrap64 (v0 + v3) = v0 + v3 := by unfold wrap64; omega
          have e2 : wrap64 (S + (v0 + v3)) = S + (v0 + v3) := by unfold wrap64; omega
          have HQ' := Lib.hid HQ
          have HES := Lib.hid eS
          clear HQ hc y0 y1 y2 y3 y4 eS hS0 hbs hki
          go_wp2_with (go_at_call 33; (with_reducible refine HQ'.out.mono ?_); rintro e x3 ⟨rfl, hb⟩; have HM3 := Lib.hid ((HM.out.below hb).alloc (.cells #[.int .i64 v0, .int .i64 v1, .int .i64 v2, .int .i64 v3] 34)); have HMB3 := Lib.hid ((HMB.out.below hb).below (bAl (bRef x3) (.cells #[.int .i64 v0, .int .i64 v1, .int .i64 v2, .int .i64 v3] 34))); have HB3 := Lib.hid ((HB.out.trans (hb.mono HB.out.size)).alloc (Nat.le_trans HB.out.size hb.size) (.cells #[.int .i64 v0, .int .i64 v1, .int .i64 v2, .int .i64 v3] 34)); clear hb)
          go_roundw
          case rel => exact ⟨i + 1, by go_num, by omega, by rw [HES.out, e2], HM3.out, HMB3.out, HB3.out⟩
          case measure => simp [intOf]; omega
        · obtain rfl : i = N := by omega
          have hd2 : decide ((i : Int) < (i : Int)) = false := decide_eq_false (by omega)
          have HQ := mcounts_any HM.out i (by omega)
          obtain ⟨P, hP, hc, hsum⟩ := HI.out.all
          have htk := HI.out.tk
          rw [hnn] at hsum
          rw [hsum]
          have y0 := hc.c0
          have y1 := hc.c1
          have y2 := hc.c2
          have y3 := hc.c3
          have y4 := hc.sum
          rw [show m.counts i = m.all by unfold MG.counts; rw [if_neg (by omega)]] at HQ
          generalize m.all.c0 = v0 at *
          generalize m.all.c1 = v1 at *
          generalize m.all.c2 = v2 at *
          generalize m.all.c3 = v3 at *
          have e1 : wrap64 (v0 + v1) = v0 + v1 := by unfold wrap64; omega
          have e2 : wrap64 (v0 + v1 + v2) = v0 + v1 + v2 := by unfold wrap64; omega
          have e3 : wrap64 (v0 + v1 + v2 + v3) = (P : Int) := by unfold wrap64; omega
          have e4 : wrap64 (v0 + v3) = t := by unfold wrap64; omega
          have HQ' := Lib.hid HQ
          clear HQ hc y0 y1 y2 y3 y4 hsum htk hbs hki hbt
          go_wp2_with (go_at_call 33; (with_reducible refine HQ'.out.mono ?_); rintro e x3 ⟨rfl, hb⟩; have HB3 := Lib.hid ((HB.out.trans (hb.mono HB.out.size)).alloc (Nat.le_trans HB.out.size hb.size) (.cells #[.int .i64 v0, .int .i64 v1, .int .i64 v2, .int .i64 v3] 34)); clear hb)
          go_ret
          exact ⟨rfl, HB3.out⟩

theorem mergeAdds_holds : Rows.MergeAddsSaid := mergeAdds_of (fun ways w1 l1 r1 w2 l2 r2 every limit v n w _ _ _ _ _ _ _ _ _ ha => by
  obtain ⟨p, c, rfl⟩ := ha.slice
  by_cases hn : 80 < n
  · exact madds_many ways w1 l1 r1 w2 l2 r2 every limit p n c w hn
  by_cases h : okM ways w1 l1 r1 w2 l2 r2 every limit
  · obtain ⟨N, rfl⟩ : ∃ N : Nat, ways = (N : Int) := ⟨ways.toNat, by have := h.1; omega⟩
    exact madds_ok N w1 l1 r1 w2 l2 r2 every limit p n c w (by omega) h ha
  · exact madds_bad ways w1 l1 r1 w2 l2 r2 every limit p n c w (by omega) h)

end Go.Proofs.Ytkapklgimcmhdaa
