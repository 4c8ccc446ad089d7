/- For every setup, every slice of steps and every turn SeqrRound answers true: with all numbers turned by as much the same becomes of each. No condition. -/
import Derived.Test.YtkapklgimcmhdaaFSeqrRound
import Derived.Test.YtkapklgimcmhdaaSqEq
namespace Go.Proofs.Ytkapklgimcmhdaa
open Go.RowKit Go.Joins

theorem round_many (way len reset : Int) (p : Option Addr) (n c : Nat) (t : Int) (w : World) (h : 100 < n) :
    Calls Try.prog 5 #[QV way len reset, .slice p n c, .int .i64 t] w fun e w' => e = .returned (.bool true) ∧ Below w.heap.size w w' := by
  have HH := Lib.hid head_ret
  have d : decide ((100 : Int) < (n : Int)) = true := decide_eq_true (by omega)
  clear h
  go_enter Try.func5, Try.ntmps5
  go_wp2_with (go_at_call 13; (with_reducible refine (HH.out _).mono ?_); rintro e w1 ⟨rfl, hb⟩; have HB := Lib.hid (bTr (bAl (bRef w) _) hb); clear hb)
  go_ret
  exact ⟨rfl, HB.out⟩
theorem round_bad (way len reset : Int) (p : Option Addr) (n c : Nat) (t : Int) (w : World) (h : n ≤ 100) (ho : ¬ okQ way len reset) :
    Calls Try.prog 5 #[QV way len reset, .slice p n c, .int .i64 t] w fun e w' => e = .returned (.bool true) ∧ Below w.heap.size w w' := by
  have HH := Lib.hid head_ret
  have HN := Lib.hid (fun W => qnew_no way len reset 0 W ho)
  have d : decide ((100 : Int) < (n : Int)) = false := decide_eq_false (by omega)
  have K0 := Lib.hid (QB.new w way len reset)
  clear h ho
  go_enter Try.func5, Try.ntmps5
  go_wp2_with (first
    | (go_at_call 13; (with_reducible refine (HH.out _).mono ?_); rintro e w1 ⟨rfl, hb⟩; have HB := Lib.hid (bTr (bAl (bRef w) _) hb); have K1 := Lib.hid (K0.out.below hb); obtain ⟨k0, k1, k2⟩ := K1.out.cells; have ST : Hid True := Lib.hid trivial; clear hb)
    | (go_at_call 14; (with_reducible refine (HN.out _).mono ?_); rintro e w2 ⟨rfl, hb⟩; clear ST; have HB2 := Lib.hid (bTr HB.out hb); have K2 := Lib.hid (K1.out.below hb); obtain ⟨q0, q1, q2⟩ := K2.out.cells; clear hb)
    | (go_at_call 14; (with_reducible refine (HN.out _).mono ?_); rintro e w3 ⟨rfl, hb⟩; have HB3 := Lib.hid (bTr HB2.out hb); clear hb))
  go_ret
  exact ⟨rfl, HB3.out⟩

def RndRel (w : World) (b b' n : Nat) (t : Int) (kv : Value) (wr : World) : Prop :=
  ∃ (k : Nat) (m m' : SQ), kv = .int .i64 (k : Int) ∧ k ≤ n ∧ Sq wr b m ∧ Sq wr b' m' ∧ m.Good ∧ m'.Good ∧ Rot t m m' ∧ Cq m m' ∧ m'.when = m.when ∧ Below w.heap.size w wr
set_option maxRecDepth 20000 in
set_option maxHeartbeats 4000000 in
theorem round_ok (way len reset : Int) (p : Option Addr) (n c : Nat) (t0 : Int) (w : World) (hn : n ≤ 100) (h : okQ way len reset) (ha : SlArg 2 Oksandglasslaw13Step w (.slice p n c) n) :
    Calls Try.prog 5 #[QV way len reset, .slice p n c, .int .i64 t0] w fun e w' => e = .returned (.bool true) ∧ Below w.heap.size w w' := by
  have HH := Lib.hid head_ret
  have d : decide ((100 : Int) < (n : Int)) = false := decide_eq_false (by omega)
  have HN := Lib.hid (fun W => qnew_ok way len reset 0 W h)
  have G0 := Lib.hid (Q0_good (now := 0) h (by decide) (by decide))
  have K0 := Lib.hid (QB.new w way len reset)
  have HA := Lib.hid ha
  have Hn := Lib.hid hn
  have et := low16 t0
  obtain ⟨t, ht⟩ : ∃ t, t0 % 65536 = t := ⟨_, rfl⟩
  have HT : Hid (0 ≤ t ∧ t < 65536) := Lib.hid (by omega)
  rw [ht] at et
  clear h ha hn ht
  go_enter Try.func5, Try.ntmps5
  go_wp2_with (first
    | (go_at_call 13; (with_reducible refine (HH.out _).mono ?_); rintro e w1 ⟨rfl, hb⟩; have HB := Lib.hid (bTr (bAl (bRef w) _) hb); have K1 := Lib.hid (K0.out.below hb); obtain ⟨k0, k1, k2⟩ := K1.out.cells; have ST : Hid True := Lib.hid trivial; clear hb)
    | (go_at_call 14; (with_reducible refine (HN.out _).mono ?_); rintro e w2 ⟨b, rfl, hm, hb0, hb⟩; clear ST; have HB2 := Lib.hid (bTr HB.out hb); have HM2 := Lib.hid hm; have HBB : Hid (w.heap.size < b) := Lib.hid (by have e1 := lt_of_heap K1.out; omega); have K2 := Lib.hid (K1.out.below hb); obtain ⟨q0, q1, q2⟩ := K2.out.cells; clear hm hb0 hb)
    | (go_at_call 14; (with_reducible refine (HN.out _).mono ?_); rintro e w3 ⟨b', rfl, hm, hb0, hb⟩; have HB3 := Lib.hid (bTr HB2.out hb); have HM3 := Lib.hid (HM2.out.below hb); have HM3' := Lib.hid hm; have HBB' : Hid (b < b') := Lib.hid (by have e1 := HM2.out.lt; omega); clear hm hb0 hb))
  go_loopw [45] (fun kv wr => RndRel w b b' n t kv wr) (fun kv _ => n - (intOf kv).toNat)
  case atStart => exact ⟨0, _, _, rfl, by omega, HM3.out, HM3'.out, G0.out, G0.out, ⟨rfl, rfl, rfl, rfl, fun h => absurd rfl h⟩, ⟨rfl, rfl, rfl, rfl, rfl, rfl⟩, rfl, HB3.out⟩
  case round =>
    clear HM3 HM3' HB3 HB2 K2 HB K1 K0 G0 HN q0 q1 q2 k0 k1 k2 HM2
    obtain ⟨k, m, m', rfl, hk, hm, hm', hg, hg', hr, hc, hw, hb⟩ := hrel
    have HM := Lib.hid hm
    have HM' := Lib.hid hm'
    have HG := Lib.hid hg
    have HG' := Lib.hid hg'
    have HR := Lib.hid hr
    have HC := Lib.hid hc
    have HW := Lib.hid hw
    have HB := Lib.hid hb
    clear hm hm' hg hg' hr hc hw hb
    have hn100 := Hn.out
    rcases Nat.lt_or_ge k n with g1 | g1
    · have hd : decide ((k : Int) < (n : Int)) = true := decide_eq_true (by omega)
      obtain ⟨ab, o, F, rfl, hab, hF⟩ := SlArg.at HA.out (by omega)
      obtain ⟨⟨z0, z1, hz, b0, b1⟩, hlen, hc⟩ := hF k g1
      rw [hz] at hc
      have c0 := (HB.out.cell (p := ⟨ab, o + k * 2 + 0, none⟩) hab).trans (hc 0 (by omega))
      have c1 := (HB.out.cell (p := ⟨ab, o + k * 2 + 1, none⟩) hab).trans (hc 1 (by omega))
      rw [Nat.add_zero] at c0
      simp only [List.getElem?_cons_zero, List.getElem?_cons_succ] at c0 c1
      clear hF hc hlen hz F hab
      by_cases h0 : z1 < 0
      · have d0 : decide (z1 < 0) = true := decide_eq_true h0
        clear h0
        go_wp2_with fail
        go_roundw
        case rel => exact ⟨k + 1, m, m', by go_num, by omega, HM.out.alloc _, HM'.out.alloc _, HG.out, HG'.out, HR.out, HC.out, HW.out, HB.out.alloc HB.out.size _⟩
        case measure => simp [intOf]; omega
      have d0 : decide (z1 < 0) = false := decide_eq_false h0
      by_cases h1 : 65535 < z1
      · have d1 : decide (65535 < z1) = true := decide_eq_true h1
        clear h0 h1
        go_wp2_with fail
        go_roundw
        case rel => exact ⟨k + 1, m, m', by go_num, by omega, HM.out.alloc _, HM'.out.alloc _, HG.out, HG'.out, HR.out, HC.out, HW.out, HB.out.alloc HB.out.size _⟩
        case measure => simp [intOf]; omega
      have d1 : decide (65535 < z1) = false := decide_eq_false h1
      have HTT := HT.out
      have hI := fun W (hW : Sq W b m) => in_ok hW HG.out z0 z1 b0.1 b0.2 (by omega) (by omega)
      have hI' := fun W (hW : Sq W b' m') => in_ok hW HG'.out z0 ((z1 + t) % 65536) b0.1 b0.2 (by omega) (by omega)
      obtain ⟨r1, r2, r3, r4⟩ := HR.out.into HW.out HG.out z0 (x := z1) (by omega) (by omega)
      have HG2 := Lib.hid (HG.out.into (now := z0) (seq := z1) b0.1 b0.2 (by omega) (by omega))
      have HG2' := Lib.hid (HG'.out.into (now := z0) (seq := (z1 + t) % 65536) b0.1 b0.2 (by omega) (by omega))
      have e1 : wrap64 (z1 + t) = z1 + t := by unfold wrap64; omega
      have e2 : (z1 + t).tmod 65536 = (z1 + t) % 65536 := Int.tmod_eq_emod_of_nonneg (by omega)
      rw [r1] at hI'
      have HC2 := Lib.hid (r4 HC.out)
      have HR2 := Lib.hid r2
      have HW2 := Lib.hid r3
      generalize m.told z0 z1 = T at *
      generalize m.into z0 z1 = m2 at *
      generalize m'.into z0 ((z1 + t) % 65536) = m2' at *
      generalize (z1 + t) % 65536 = Y at *
      have HIn := Lib.hid hI
      have HIn' := Lib.hid hI'
      have HBL := HBB.out
      have HBL' := HBB'.out
      clear hI hI' r1 r2 r3 r4 h0 h1 HTT b0 b1
      have ST : Hid True := Lib.hid trivial
      go_wp2_with (first
        | (go_at_call 16; (with_reducible refine (HIn.out _ (HM.out.alloc _)).mono ?_); rintro e w4 ⟨rfl, hm, hb⟩; have HM4 := Lib.hid hm; have HM4' := Lib.hid ((HM'.out.alloc _).but hb (by omega)); have s4 : w4.cell? ⟨wr.heap.size, 0, none⟩ = some (.int .i64 z0) := (heap_cell (hb.block wr.heap.size (by simp) (by have := HM.out.lt; omega)) 0).1.trans (by simp); have t4 : w4.cell? ⟨wr.heap.size, 1, none⟩ = some (.int .i64 z1) := (heap_cell (hb.block wr.heap.size (by simp) (by have := HM.out.lt; omega)) 1).1.trans (by simp); have HB4 := Lib.hid ((HB.out.alloc HB.out.size _).trans (hb.below (Nat.le_of_lt HBB.out) (HM.out.alloc _).lt)); clear hm hb)
        | (go_at_call 16; (with_reducible refine (HIn'.out _ HM4'.out).mono ?_); rintro e w5 ⟨rfl, hm, hb⟩; have HM5' := Lib.hid hm; have HM5 := Lib.hid (HM4.out.but hb (by omega)); have HB5 := Lib.hid (HB4.out.trans (hb.below (by omega) HM4'.out.lt)); clear hm hb))
      go_roundw
      case rel => exact ⟨k + 1, m2, m2', by go_num, by omega, HM5.out, HM5'.out, HG2.out, HG2'.out, HR2.out, HC2.out, HW2.out, HB5.out⟩
      case measure => simp [intOf]; omega
    · obtain rfl : k = n := by omega
      have hd : decide ((k : Int) < (k : Int)) = false := decide_eq_false (by omega)
      have HQ := Lib.hid (counts_any HM.out)
      have HQ' := fun W (hW : Sq W b' m') => counts_any hW
      rw [HC.out.c0, HC.out.c1, HC.out.c2, HC.out.c3] at HQ'
      have HQ'' := Lib.hid HQ'
      have HL := Lib.hid (fun W (hW : Sq W b m) => lost_any hW)
      have HL' := fun W (hW : Sq W b' m') => lost_any hW
      rw [HC.out.lost] at HL'
      have HL'' := Lib.hid HL'
      clear HQ' HL'
      generalize m.c0 = x0 at *
      generalize m.c1 = x1 at *
      generalize m.c2 = x2 at *
      generalize m.c3 = x3 at *
      generalize m.lost = x4 at *
      have hq := fun W => run_eqC4 x0 x1 x2 x3 x0 x1 x2 x3 W true (by simp)
      go_wp2_with (first
        | (go_at_call 19; (with_reducible refine HQ.out.mono ?_); rintro e w5 ⟨rfl, hb⟩; have HM5 := Lib.hid (HM.out.below hb); have HM5' := Lib.hid (HM'.out.below hb); have HB5 := Lib.hid (HB.out.trans (hb.mono HB.out.size)); clear hb)
        | (go_at_call 19; (with_reducible refine (HQ''.out _ HM5'.out).mono ?_); rintro e w6 ⟨rfl, hb⟩; have HM6 := Lib.hid (HM5.out.below hb); have HM6' := Lib.hid (HM5'.out.below hb); have HB6 := Lib.hid (HB5.out.trans (hb.mono HB5.out.size)); clear hb)
        | (go_at_call 21; (with_reducible refine (HL.out _ HM6.out).mono ?_); rintro e w7 ⟨rfl, rfl⟩)
        | (go_at_call 21; (with_reducible refine (HL''.out _ HM6'.out).mono ?_); rintro e w8 ⟨rfl, rfl⟩))
      go_ret
      exact ⟨rfl, HB6.out⟩

theorem seqrRound_holds : Rows.SeqrRoundSaid := seqrRound_of (fun way len reset v n t w _ _ _ ha _ => by
  obtain ⟨p, c, rfl⟩ := ha.slice
  by_cases hn : 100 < n
  · exact round_many way len reset p n c t w hn
  by_cases h : okQ way len reset
  · exact round_ok way len reset p n c t w (by omega) h ha
  · exact round_bad way len reset p n c t w (by omega) h)

end Go.Proofs.Ytkapklgimcmhdaa
