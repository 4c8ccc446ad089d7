/- For every setup and every slice of numbers SeqrAdds answers true: each frame is counted once; none is taken twice in a row. No condition. -/
import Derived.Test.YtkapklgimcmhdaaFSeqrAdds
import Derived.Test.YtkapklgimcmhdaaSqPlain
namespace Go.Proofs.Ytkapklgimcmhdaa
open Go.RowKit Go.Joins

theorem adds_many (way len reset : Int) (p : Option Addr) (n c : Nat) (w : World) (h : 100 < n) :
    Calls Try.prog 8 #[QV way len reset, .slice p n c] w fun e w' => e = .returned (.bool true) ∧ Below w.heap.size w w' := by
  have HH := Lib.hid head_ret
  have d : decide ((100 : Int) < (n : Int)) = true := decide_eq_true (by omega)
  clear h
  go_enter Try.func8, Try.ntmps8
  go_wp2_with (go_at_call 13; (with_reducible refine (HH.out _).mono ?_); rintro e w1 ⟨rfl, hb⟩; have HB := Lib.hid (bTr (bAl (bRef w) _) hb); clear hb)
  go_ret
  exact ⟨rfl, HB.out⟩
theorem adds_bad (way len reset : Int) (p : Option Addr) (n c : Nat) (w : World) (h : n ≤ 100) (ho : ¬ okQ way len reset) :
    Calls Try.prog 8 #[QV way len reset, .slice p n c] w fun e w' => e = .returned (.bool true) ∧ Below w.heap.size w w' := by
  have HH := Lib.hid head_ret
  have HC := Lib.hid (fun W => qcheck_no way len reset W ho)
  have d : decide ((100 : Int) < (n : Int)) = false := decide_eq_false (by omega)
  have K0 := Lib.hid (QB.new w way len reset)
  clear h ho
  go_enter Try.func8, Try.ntmps8
  go_wp2_with (first
    | (go_at_call 13; (with_reducible refine (HH.out _).mono ?_); rintro e w1 ⟨rfl, hb⟩; have HB := Lib.hid (bTr (bAl (bRef w) _) hb); obtain ⟨k0, k1, k2⟩ := (K0.out.below hb).cells; clear hb)
    | (go_at_call 18; (with_reducible refine (HC.out _).mono ?_); rintro e w2 ⟨rfl, hb⟩; have HB2 := Lib.hid (bTr HB.out hb); clear hb))
  go_ret
  exact ⟨rfl, HB2.out⟩

def pf4 (x0 x1 x2 x3 : Int) : Nat → Int
  | 0 => 0 | 1 => x0 | 2 => x0 + x1 | 3 => x0 + x1 + x2 | _ => x0 + x1 + x2 + x3
def AddRel (w : World) (b n : Nat) (way len reset : Int) (lv kv : Value) (wr : World) : Prop :=
  ∃ (k : Nat) (m : SQ) (l : Int), kv = .int .i64 (k : Int) ∧ lv = .int .i64 l ∧ k ≤ n ∧ Sq wr b m ∧ m.Good ∧ (m.way = way ∧ m.len = len ∧ m.reset = reset) ∧ Cnt m k ∧ m.resets = 0 ∧ m.when = 0 ∧ (l = -1 ∨ (0 ≤ l ∧ Seen m l)) ∧ Below w.heap.size w wr
theorem ix4 (x0 x1 x2 x3 : Int) : (∀ w, (Instr.index 34 (C4 x0 x1 x2 x3) (.int .i64 0)).run Try.prog w = .ok (.int .i64 x0) w) ∧ (∀ w, (Instr.index 34 (C4 x0 x1 x2 x3) (.int .i64 1)).run Try.prog w = .ok (.int .i64 x1) w) ∧ (∀ w, (Instr.index 34 (C4 x0 x1 x2 x3) (.int .i64 2)).run Try.prog w = .ok (.int .i64 x2) w) ∧ (∀ w, (Instr.index 34 (C4 x0 x1 x2 x3) (.int .i64 3)).run Try.prog w = .ok (.int .i64 x3) w) :=
  ⟨fun _ => by kernel_rfl, fun _ => by kernel_rfl, fun _ => by kernel_rfl, fun _ => by kernel_rfl⟩
set_option maxRecDepth 20000 in
set_option maxHeartbeats 4000000 in
theorem adds_ok (way len reset : Int) (p : Option Addr) (n c : Nat) (w : World) (hn : n ≤ 100) (h : okQ way len reset) (ha : SlArg 1 Okint w (.slice p n c) n) :
    Calls Try.prog 8 #[QV way len reset, .slice p n c] w fun e w' => e = .returned (.bool true) ∧ Below w.heap.size w w' := by
  have HH := Lib.hid head_ret
  have HC := Lib.hid (fun W => qcheck_yes way len reset W h)
  have d : decide ((100 : Int) < (n : Int)) = false := decide_eq_false (by omega)
  have HN := Lib.hid (fun W => qnew_ok way len reset 0 W h)
  have G0 := Lib.hid (Q0_good (now := 0) h (by decide) (by decide))
  have K0 := Lib.hid (QB.new w way len reset)
  have HA := Lib.hid ha
  have Hn := Lib.hid hn
  clear h ha hn
  go_enter Try.func8, Try.ntmps8
  go_wp2_with (first
    | (go_at_call 13; (with_reducible refine (HH.out _).mono ?_); rintro e w1 ⟨rfl, hb⟩; have HB := Lib.hid (bTr (bAl (bRef w) _) hb); have K1 := Lib.hid (K0.out.below hb); obtain ⟨k0, k1, k2⟩ := K1.out.cells; clear hb)
    | (go_at_call 18; (with_reducible refine (HC.out _).mono ?_); rintro e w2 ⟨rfl, hb⟩; have HB2 := Lib.hid (bTr HB.out hb); have K2 := Lib.hid (K1.out.below hb); obtain ⟨q0, q1, q2⟩ := K2.out.cells; clear hb)
    | (go_at_call 14; (with_reducible refine (HN.out _).mono ?_); rintro e w3 ⟨b, rfl, hm, hb0, hb⟩; have HB3 := Lib.hid (bTr HB2.out hb); have HM3 := Lib.hid hm; have HBB : Hid (w.heap.size < b) := Lib.hid (by have e1 := lt_of_heap K2.out; omega); clear hm hb0 hb))
  go_loopw [7, 34] (fun lv kv wr => AddRel w b n way len reset lv kv wr) (fun _ kv _ => n - (intOf kv).toNat)
  case atStart => exact ⟨0, _, -1, rfl, rfl, by omega, HM3.out, G0.out, ⟨rfl, rfl, rfl⟩, ⟨Int.le_refl _, Int.le_refl _, Int.le_refl _, Int.le_refl _, rfl⟩, rfl, rfl, .inl rfl, HB3.out⟩
  case round =>
    clear HM3 HB3 HB2 K2 HB K1 K0 G0 HN q0 q1 q2 k0 k1 k2
    obtain ⟨k, m, l, rfl, rfl, hk, hm, hg, hi, hc, hr, hw, hl, hb⟩ := hrel
    have HM := Lib.hid hm
    have HG := Lib.hid hg
    have HI := Lib.hid hi
    have HC2 := Lib.hid hc
    have HR := Lib.hid hr
    have HW := Lib.hid hw
    have HL := Lib.hid hl
    have HB := Lib.hid hb
    clear hm hg hi hc hr hw hl hb
    have hn100 := Hn.out
    rcases Nat.lt_or_ge k n with g1 | g1
    · have hd : decide ((k : Int) < (n : Int)) = true := decide_eq_true (by omega)
      obtain ⟨ab, o, F, rfl, hab, hF⟩ := SlArg.at HA.out (by omega)
      obtain ⟨⟨z0, hz, b0⟩, hlen, hc⟩ := hF k g1
      rw [hz] at hc
      have c0 := (HB.out.cell (p := ⟨ab, o + k * 1 + 0, none⟩) hab).trans (hc 0 (by omega))
      rw [Nat.add_zero, Nat.mul_one] at c0
      simp only [List.getElem?_cons_zero] at c0
      clear hF hc hlen hz F hab
      have e1 := low16 z0
      obtain ⟨Z, hZ⟩ : ∃ Z, z0 % 65536 = Z := ⟨_, rfl⟩
      have hZ0 : 0 ≤ Z := by omega
      have hZ1 : Z < 65536 := by omega
      rw [hZ] at e1
      clear hZ
      have hI := fun W (hW : Sq W b m) => in_ok hW HG.out 0 Z (by decide) (by decide) hZ0 hZ1
      have HG2 := Lib.hid (HG.out.into (now := 0) (by decide) (by decide) hZ0 hZ1)
      have HCnt := Lib.hid (HC2.out.into (by omega) 0 Z)
      have HWay := Lib.hid (into_way m 0 Z)
      have HWhen := Lib.hid (into_when HW.out Z)
      have HRes := Lib.hid (into_resets HG.out HW.out Z)
      have hT : m.told 0 Z = (m.noted Z).2 := by unfold SQ.told; rw [fresh_at HG.out HW.out]
      have hN := noted_two m Z
      rw [← hT] at hN
      have hS : m.told 0 Z ≠ 2 → Seen (m.into 0 Z) Z := fun h2 => by
        unfold SQ.into
        rw [fresh_at HG.out HW.out]
        exact ((noted_seen HG.out hZ0 hZ1 (by rw [← hT]; exact h2)).count _).timed _ _
      have hA : Z = l → m.told 0 Z = 1 := fun e => by
        rw [hT]
        rcases HL.out with h1 | ⟨_, h2⟩
        · omega
        · rw [e, h2.again HG.out.ok.2.1]
      generalize m.into 0 Z = m2 at *
      generalize m.told 0 Z = T at *
      have HIn := Lib.hid hI
      have HS := Lib.hid hS
      clear hI hT hS
      have hTT : (T = 1) ∨ (T = 0 ∧ Z ≠ l) ∨ (T = 2 ∧ Z ≠ l) ∨ (T = 3 ∧ Z ≠ l) := by
        by_cases e : Z = l
        · exact .inl (hA e)
        · rcases hN with h | h | h | h
          · exact .inr (.inl ⟨h, e⟩)
          · exact .inl h
          · exact .inr (.inr (.inl ⟨h, e⟩))
          · exact .inr (.inr (.inr ⟨h, e⟩))
      have HZ0 := Lib.hid hZ0
      clear hA hN hZ0 hZ1
      rcases hTT with rfl | ⟨rfl, hz⟩ | ⟨rfl, hz⟩ | ⟨rfl, hz⟩
      · cases hzz : (Z == l)
        all_goals
          go_wp2_with (go_at_call 16; (with_reducible refine (HIn.out _ HM.out).mono ?_); rintro e w4 ⟨rfl, hm, hb⟩; have HM4 := Lib.hid hm; have HB4 := Lib.hid (HB.out.trans (hb.below (Nat.le_of_lt HBB.out) HM.out.lt)); clear hm hb)
          go_roundw
          case rel => exact ⟨k + 1, m2, Z, by go_num, rfl, by omega, HM4.out, HG2.out, ⟨HWay.out.1.trans HI.out.1, HWay.out.2.1.trans HI.out.2.1, HWay.out.2.2.trans HI.out.2.2⟩, HCnt.out, HRes.out.trans HR.out, HWhen.out, .inr ⟨HZ0.out, HS.out (by decide)⟩, HB4.out⟩
          case measure => simp [intOf]; omega
      all_goals
        have hzz : (Z == l) = false := by simpa using hz
        clear hz
        go_wp2_with (go_at_call 16; (with_reducible refine (HIn.out _ HM.out).mono ?_); rintro e w4 ⟨rfl, hm, hb⟩; have HM4 := Lib.hid hm; have HB4 := Lib.hid (HB.out.trans (hb.below (Nat.le_of_lt HBB.out) HM.out.lt)); clear hm hb)
        go_roundw
        case rel => first
          | exact ⟨k + 1, m2, Z, by go_num, rfl, by omega, HM4.out, HG2.out, ⟨HWay.out.1.trans HI.out.1, HWay.out.2.1.trans HI.out.2.1, HWay.out.2.2.trans HI.out.2.2⟩, HCnt.out, HRes.out.trans HR.out, HWhen.out, .inr ⟨HZ0.out, HS.out (by decide)⟩, HB4.out⟩
          | exact ⟨k + 1, m2, -1, by go_num, rfl, by omega, HM4.out, HG2.out, ⟨HWay.out.1.trans HI.out.1, HWay.out.2.1.trans HI.out.2.1, HWay.out.2.2.trans HI.out.2.2⟩, HCnt.out, HRes.out.trans HR.out, HWhen.out, .inl rfl, HB4.out⟩
        case measure => simp [intOf]; omega
    · obtain rfl : k = n := by omega
      have hd : decide ((k : Int) < (k : Int)) = false := decide_eq_false (by omega)
      have HQ := Lib.hid (counts_any HM.out)
      obtain ⟨i0, i1, i2, i3⟩ := ix4 m.c0 m.c1 m.c2 m.c3
      go_wp2_with (go_at_call 19; (with_reducible refine HQ.out.mono ?_); rintro e w5 ⟨rfl, hb⟩; have HM5 := Lib.hid (HM.out.below hb); have HB5 := Lib.hid (HB.out.trans (hb.mono HB.out.size)); clear hb)
      obtain ⟨z0, z1, z2, z3, z4⟩ := HC2.out
      have HSum : Hid (m.c0 + m.c1 + m.c2 + m.c3 = (k : Int)) := Lib.hid z4
      generalize hc0 : m.c0 = x0 at *
      generalize hc1 : m.c1 = x1 at *
      generalize hc2 : m.c2 = x2 at *
      generalize hc3 : m.c3 = x3 at *
      have y0 : wrap64 x0 = x0 := by unfold wrap64; omega
      have y1 : wrap64 (x0 + x1) = x0 + x1 := by unfold wrap64; omega
      have y2 : wrap64 (x0 + x1 + x2) = x0 + x1 + x2 := by unfold wrap64; omega
      have y3 : wrap64 (x0 + x1 + x2 + x3) = x0 + x1 + x2 + x3 := by unfold wrap64; omega
      clear z0 z1 z2 z3 z4 hc0 hc1 hc2 hc3 HQ
      go_loopw [12, 71] (fun sv iv wr => ∃ j : Nat, iv = .int .i64 (j : Int) ∧ j ≤ 4 ∧ sv = .int .i64 (pf4 x0 x1 x2 x3 j) ∧ Sq wr b m ∧ Below w.heap.size w wr) (fun _ iv _ => 4 - (intOf iv).toNat)
      case atStart => exact ⟨0, rfl, by omega, rfl, HM5.out, HB5.out⟩
      case round =>
        obtain ⟨j, rfl, hj, rfl, hm, hb⟩ := hrel
        have HMj := Lib.hid hm
        have HBj := Lib.hid hb
        clear hm hb
        have hj4 : j = 0 ∨ j = 1 ∨ j = 2 ∨ j = 3 ∨ j = 4 := by omega
        clear hj
        rcases hj4 with rfl | rfl | rfl | rfl | rfl
        · rw [show pf4 x0 x1 x2 x3 0 = 0 from rfl]
          go_wp2_with fail
          go_roundw
          case rel => exact ⟨1, rfl, by omega, by rw [y0]; rfl, HMj.out, HBj.out⟩
          case measure => simp [intOf]
        · rw [show pf4 x0 x1 x2 x3 1 = x0 from rfl]
          go_wp2_with fail
          go_roundw
          case rel => exact ⟨2, rfl, by omega, by rw [y1]; rfl, HMj.out, HBj.out⟩
          case measure => simp [intOf]
        · rw [show pf4 x0 x1 x2 x3 2 = x0 + x1 from rfl]
          go_wp2_with fail
          go_roundw
          case rel => exact ⟨3, rfl, by omega, by rw [y2]; rfl, HMj.out, HBj.out⟩
          case measure => simp [intOf]
        · rw [show pf4 x0 x1 x2 x3 3 = x0 + x1 + x2 from rfl]
          go_wp2_with fail
          go_roundw
          case rel => exact ⟨4, rfl, by omega, by rw [y3]; rfl, HMj.out, HBj.out⟩
          case measure => simp [intOf]
        · rw [show pf4 x0 x1 x2 x3 4 = (k : Int) from HSum.out]
          have HRs := resets_any HMj.out
          rw [HR.out] at HRs
          have HRs' := Lib.hid HRs
          clear HRs
          go_wp2_with (go_at_call 20; (with_reducible refine HRs'.out.mono ?_); rintro e w6 ⟨rfl, rfl⟩)
          go_ret
          exact ⟨rfl, HBj.out⟩

theorem seqrAdds_holds : Rows.SeqrAddsSaid := seqrAdds_of (fun way len reset v n w _ _ _ ha => by
  obtain ⟨p, c, rfl⟩ := ha.slice
  by_cases hn : 100 < n
  · exact adds_many way len reset p n c w hn
  by_cases h : okQ way len reset
  · exact adds_ok way len reset p n c w (by omega) h ha
  · exact adds_bad way len reset p n c w (by omega) h)

end Go.Proofs.Ytkapklgimcmhdaa
