/- For every setup and every int MeterFull answers true: pails that had time enough are full, and a frame without bytes is green. No condition. -/
import Derived.Test.YtnmnodmlakiboabFMeterFull
import Derived.Test.YtnmnodmlakiboabMtLow
namespace Go.Proofs.Ytnmnodmlakiboab
open Go.RowKit Go.Joins

theorem full_math {m : MS} (g : m.Good) {r bu now : Int} (hr : m.r = r) (hb : m.bu = bu) (ho : m.off = false) (h1 : 1 ≤ r) (hn : 1000000000 * (bu / r + 1) ≤ now - m.last) :
    m.told now 0 false = 0 ∧ (m.into now 0 false).fi = bu * 1000000000 := by
  have g0 := g.f0
  have gb := g.bu0
  have hdiv := Int.mul_ediv_add_emod bu r
  have hmod := Int.emod_lt_of_pos bu (show 0 < r by omega)
  have hq : r * (1000000000 * (bu / r + 1)) ≤ r * (now - m.last) := Int.mul_le_mul_of_nonneg_left hn (by omega)
  have he : r * (1000000000 * (bu / r + 1)) = 1000000000 * (r * (bu / r) + r) := by
    rw [← Int.mul_assoc, Int.mul_comm r 1000000000, Int.mul_assoc, Int.mul_add, Int.mul_one]
  have hw : (m.wait now).fi = bu * 1000000000 := by
    show fillP m.fi (m.r * (now - m.last)) m.bu = _
    unfold fillP
    rw [hr, hb, if_neg (by omega)]
  unfold MS.told MS.into MS.col MS.took
  have e : (m.wait now).off = false := ho
  rw [e, if_neg (show ¬ (false = true) by simp), if_neg (show ¬ (false = true) by simp)]
  have hc : ¬ ((m.wait now).aw && false) = true ∧ (0 : Int) * 8 * 1000000000 ≤ (m.wait now).fi := ⟨by simp, by rw [hw]; omega⟩
  rw [if_pos hc, if_pos hc]
  refine ⟨rfl, ?_⟩
  show (m.wait now).fi - 0 * 8 * 1000000000 = _
  rw [hw]; omega

theorem full_bad (r bu mo be x : Int) (cp aw sh : Bool) (w : World) (h : ¬ okC r bu mo be) :
    Calls Try.prog 7 #[CV r bu mo be cp aw sh, .int .i64 x] w fun e w' => e = .returned (.bool true) ∧ Below w.heap.size w w' := by
  have HH := Lib.hid head_ret
  have HC := check_any r bu mo be cp aw sh
  rw [if_neg h] at HC
  have HC' := Lib.hid HC
  clear HC h
  have K0 := Lib.hid (CB.new w r bu mo be cp aw sh)
  go_enter Try.func7, Try.ntmps7
  go_wp2_with (first
    | (go_at_call 8; (with_reducible refine (HH.out _).mono ?_); rintro e w1 ⟨rfl, hb⟩; have HB := Lib.hid (bTr (bAl (bRef w) _) hb); obtain ⟨k0, k1, k2, k3, k4, k5, k6, -⟩ := (K0.out.below hb).cells; clear hb)
    | (go_at_call 18; (with_reducible refine (HC'.out _).mono ?_); rintro e w2 ⟨rfl, hb⟩; have HB2 := Lib.hid (bTr HB.out hb); clear hb))
  go_ret
  exact ⟨rfl, HB2.out⟩

def FullRel (w : World) (b : Nat) (r bu mo be : Int) (cp aw sh : Bool) (kv : Value) (wr : World) : Prop :=
  ∃ (k : Nat) (m : MS), kv = .int .i64 (k : Int) ∧ k ≤ 5 ∧ Mtr wr b m ∧ m.Good ∧ m.Is r bu mo be cp aw sh ∧ m.last ≤ (k : Int) ∧ CB wr w.heap.size r bu mo be cp aw sh ∧ Below w.heap.size w wr
set_option maxRecDepth 20000 in
set_option maxHeartbeats 4000000 in
theorem full_ok (r bu mo be x : Int) (cp aw sh : Bool) (w : World) (h : okC r bu mo be) :
    Calls Try.prog 7 #[CV r bu mo be cp aw sh, .int .i64 x] w fun e w' => e = .returned (.bool true) ∧ Below w.heap.size w w' := by
  have HH := Lib.hid head_ret
  have HC := check_any r bu mo be cp aw sh
  rw [if_pos h] at HC
  have HC' := Lib.hid HC
  have l1 := low20 r
  have l2 := low20 bu
  have l3 := low16 x
  obtain ⟨R, hR⟩ : ∃ R, 1 + r % 1048576 = R := ⟨_, rfl⟩
  obtain ⟨U, hU⟩ : ∃ U, bu % 1048576 = U := ⟨_, rfl⟩
  obtain ⟨X, hX⟩ : ∃ X, x % 65536 = X := ⟨_, rfl⟩
  rw [hU] at l2
  rw [hX] at l3
  have w1 : wrap64 (1 + r % 1048576) = R := by unfold wrap64; omega
  have hok : okC R U mo be := ⟨⟨by omega, by omega⟩, ⟨by omega, by omega⟩, h.2.2⟩
  have HN := Lib.hid (fun W => new_ok R U mo be 0 cp aw sh W hok (by decide) (by decide))
  have G0 := Lib.hid (M0_good (cp := cp) (aw := aw) (sh := sh) hok (show (0 : Int) ≤ 0 by decide) (by decide))
  have HRU : Hid (1 ≤ R ∧ R ≤ 1048576 ∧ 0 ≤ U ∧ U < 1048576 ∧ 0 ≤ X ∧ X < 65536) := Lib.hid ⟨by omega, by omega, by omega, by omega, by omega, by omega⟩
  have K0 := Lib.hid (CB.new w r bu mo be cp aw sh)
  clear HC h hok hU hX w1
  go_enter Try.func7, Try.ntmps7
  go_wp2_with (first
    | (go_at_call 8; (with_reducible refine (HH.out _).mono ?_); rintro e w1 ⟨rfl, hb⟩; have HB := Lib.hid (bTr (bAl (bRef w) _) hb); have K1 := Lib.hid (K0.out.below hb); obtain ⟨k0, k1, k2, k3, k4, k5, k6, -⟩ := K1.out.cells; clear hb)
    | (go_at_call 18; (with_reducible refine (HC'.out _).mono ?_); rintro e w2 ⟨rfl, hb⟩; have HB2 := Lib.hid (bTr HB.out hb); have K2 := Lib.hid (K1.out.below hb); obtain ⟨q0, q1, q2, q3, q4, q5, q6, q7, q8, q9⟩ := K2.out.cells; clear hb)
    | (go_at_call 9; (with_reducible refine (HN.out _).mono ?_); rintro e w3 ⟨b, rfl, hm, hb0, hb⟩; have K3 : Hid (CB w3 w.heap.size R U mo be cp aw sh) := Lib.hid (CB.below (heap_setCell_same _ _ 1 _ _ (.int .i64 U) (heap_setCell_same _ _ 0 _ _ (.int .i64 R) K2.out)) hb); have HB3 := Lib.hid (bTr (bSet (bSet HB2.out ⟨w.heap.size, 0, none⟩ (Nat.le_refl _) _) ⟨w.heap.size, 1, none⟩ (Nat.le_refl _) _) hb); have HM3 := Lib.hid hm; have HBB : Hid (w.heap.size < b) := Lib.hid (by have e1 := lt_of_heap K2.out; simp only [World.size_setCell] at hb0; omega); clear hm hb0 hb))
  go_loopw [7] (fun kv wr => FullRel w b R U mo be cp aw sh kv wr) (fun kv _ => 5 - (intOf kv).toNat)
  case atStart => exact ⟨0, _, rfl, by omega, HM3.out, G0.out, MS.Is.m0 _ _ _ _ _ _ _ _, Int.le_refl _, K3.out, HB3.out⟩
  case round =>
    clear HM3 K3 HB3 HB2 K2 HB K1 K0 G0 HN
    obtain ⟨k, m, rfl, hk, hm, hg, hi, hl, hc, hb⟩ := hrel
    have HM := Lib.hid hm
    have HG := Lib.hid hg
    have HI := Lib.hid hi
    have HL := Lib.hid hl
    have HK := Lib.hid hc
    have HB := Lib.hid hb
    clear hm hg hi hl hc hb
    rcases Nat.lt_or_ge k 5 with g1 | g1
    · have hd : decide ((k : Int) < 5) = true := decide_eq_true (by omega)
      have HIn := Lib.hid (in_ok HM.out HG.out (k : Int) 1500 false (by omega) (by omega) HL.out (by omega))
      have HG2 := Lib.hid (HG.out.into HL.out (show (k : Int) ≤ 1099511627776 by omega) (show (0 : Int) ≤ 1500 by omega) false)
      go_wp2_with (go_at_call 11; (with_reducible refine HIn.out.mono ?_); rintro e w4 ⟨rfl, hm, hb⟩; have HM4 := Lib.hid hm; have HB4 := Lib.hid hb; clear hm hb)
      go_roundw
      case rel => exact ⟨k + 1, _, by go_num, by omega, HM4.out, HG2.out, HI.out.into _ _ _, by rw [(m.into_same _ _ _).2.2.2.2.2.2.2]; omega, HK.out.but HB4.out (by have := HBB.out; omega), HB.out.trans (HB4.out.below (Nat.le_of_lt HBB.out) HM.out.lt)⟩
      case measure => simp [intOf]; omega
    · obtain rfl : k = 5 := by omega
      have hd : decide (((5 : Nat) : Int) < 5) = false := rfl
      obtain ⟨L, hL⟩ : ∃ L, 1048576 + 1000000000 * (U / R + 1) = L := ⟨_, rfl⟩
      have hRU := HRU.out
      have hdv := Int.mul_ediv_add_emod U R
      have hdm := Int.emod_lt_of_pos U (show 0 < R by omega)
      have hd0 : 0 ≤ U / R := Int.ediv_nonneg (by omega) (by omega)
      have hd1 : U / R ≤ U := Int.ediv_le_self _ (by omega)
      have q1 : U.tdiv R = U / R := Int.tdiv_eq_ediv_of_nonneg (by omega)
      have q2 : wrap64 (U / R) = U / R := by unfold wrap64; omega
      have q3 : wrap64 (U / R + 1) = U / R + 1 := by unfold wrap64; omega
      have q4 : wrap64 (1000000000 * (U / R + 1)) = 1000000000 * (U / R + 1) := by unfold wrap64; omega
      have q5 : wrap64 L = L := by unfold wrap64; omega
      have q6 : (R == 0) = false := by rw [beq_eq_false_iff_ne]; omega
      have hLb : Hid (1048576 ≤ L) := Lib.hid (by omega)
      obtain ⟨k0, k1, -⟩ := HK.out.cells
      have HO := Lib.hid (open_any HM.out)
      have HG2 := Lib.hid (HG.out.opened false)
      have HI2 := Lib.hid (HI.out.opened false)
      have HKN : Hid (w.heap.size ≠ b) := Lib.hid (by have := HBB.out; omega)
      have hLQ : Hid (1000000000 * (U / R + 1) ≤ L - 1048576) := Lib.hid (by omega)
      by_cases hgt : 549755813888 < L
      · have d5 : decide (549755813888 < L) = true := decide_eq_true hgt
        clear hdv hdm hd0 hd1 hRU hgt
        go_wp2_with (go_at_call 13; (with_reducible refine HO.out.mono ?_); rintro e w5 ⟨rfl, hm, hb⟩; have HM5 := Lib.hid hm; have HB5 := Lib.hid (HB.out.trans (hb.below (Nat.le_of_lt HBB.out) HM.out.lt)); have K5 := Lib.hid (HK.out.but hb HKN.out); obtain ⟨j0, j1, -⟩ := K5.out.cells; clear hm hb)
        go_ret
        exact ⟨rfl, HB5.out⟩
      have d5 : decide (549755813888 < L) = false := decide_eq_false hgt
      have hl5 := HL.out
      obtain ⟨t1, t2⟩ := full_math HG2.out (r := R) (bu := U) (now := L + X) HI2.out.r HI2.out.bu rfl hRU.1 (by have := hLQ.out; show _ ≤ L + X - m.last; omega)
      have q7 : wrap64 (L + X) = L + X := by unfold wrap64; omega
      have h6 : m.last ≤ L + X := by omega
      have h7 : L + X ≤ 1099511627776 := by omega
      have HIn : Hid (∀ W, Mtr W b { m with off := false } → Calls Try.prog 11 #[.pointer (some ⟨b, 0, none⟩), .int .i64 (L + X), .int .i64 0, .bool false] W fun e w' => e = .returned (.tuple #[.int .i64 0, .int .i64 0]) ∧ Mtr w' b (({ m with off := false } : MS).into (L + X) 0 false) ∧ ButB b W w') := Lib.hid (fun W hW => by
        have k := in_ok hW HG2.out (L + X) 0 false (by omega) (by omega) h6 h7
        rw [t1] at k; exact k)
      have HG3 := Lib.hid (HG2.out.into (now := L + X) (size := 0) h6 h7 (by omega) false)
      have HBt : Hid (∀ W, Mtr W b (({ m with off := false } : MS).into (L + X) 0 false) → Calls Try.prog 12 #[.pointer (some ⟨b, 0, none⟩)] W fun e w' => (∃ v, e = .returned (.tuple #[.int .i64 U, v])) ∧ Below W.heap.size W w') := Lib.hid (fun W hW => by
        refine (bits_any hW HG3.out).mono ?_
        rintro e w' ⟨rfl, h⟩
        rw [t2, show U * 1000000000 / 1000000000 = U by omega]
        exact ⟨⟨_, rfl⟩, h⟩)
      clear hdv hdm hd0 hd1 hRU hgt t1 t2 h6 h7 hl5
      go_wp2_with (first
        | (go_at_call 13; (with_reducible refine HO.out.mono ?_); rintro e w5 ⟨rfl, hm, hb⟩; have HM5 := Lib.hid hm; have HB5 := Lib.hid (HB.out.trans (hb.below (Nat.le_of_lt HBB.out) HM.out.lt)); have K5 := Lib.hid (HK.out.but hb HKN.out); obtain ⟨j0, j1, -⟩ := K5.out.cells; clear hm hb)
        | (go_at_call 11; (with_reducible refine (HIn.out _ HM5.out).mono ?_); rintro e w6 ⟨rfl, hm, hb⟩; have HM6 := Lib.hid hm; have HB6 := Lib.hid (HB5.out.trans (hb.below (Nat.le_of_lt HBB.out) HM5.out.lt)); have K6 := Lib.hid (K5.out.but hb HKN.out); clear hm hb)
        | (go_at_call 12; (with_reducible refine (HBt.out _ HM6.out).mono ?_); rintro e w7 ⟨⟨v7, rfl⟩, hb⟩; have HB7 := Lib.hid (HB6.out.trans (hb.mono HB6.out.size)); obtain ⟨i0, i1, -⟩ := (K6.out.below hb).cells; clear hb))
      go_ret
      exact ⟨rfl, HB7.out⟩

theorem meterFull_holds : Rows.MeterFullSaid := meterFull_of (fun r bu mo be cp aw sh x w _ _ _ _ _ => by
  by_cases h : okC r bu mo be
  · exact full_ok r bu mo be x cp aw sh w h
  · exact full_bad r bu mo be x cp aw sh w h)

end Go.Proofs.Ytnmnodmlakiboab
