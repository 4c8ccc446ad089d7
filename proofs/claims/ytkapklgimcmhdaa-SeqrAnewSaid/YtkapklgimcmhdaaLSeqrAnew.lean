/- For every setup, all steps and all numbers SeqrAnew answers true: behind long silence, or a reset, whatever number comes is taken, and those behind it as if it were the first. No condition. -/
import Derived.Test.YtkapklgimcmhdaaFSeqrAnew
import Derived.Test.YtkapklgimcmhdaaSqEq
namespace Go.Proofs.Ytkapklgimcmhdaa
open Go.RowKit Go.Joins

section
variable {t : Int} {a b : SQ}
theorem Rot.into2 {now : Int} (h : Rot t (a.fresh now) (b.fresh now)) (g : a.Good) {x : Int} (h0 : 0 ≤ x) (h1 : x < 65536) :
    b.told now ((x + t) % 65536) = a.told now x ∧ Rot t (a.into now x) (b.into now ((x + t) % 65536)) := by
  obtain ⟨n1, n2, _⟩ := h.noted (g.fresh now) h0 h1
  have e : b.told now ((x + t) % 65536) = a.told now x := n1
  refine ⟨e, ?_⟩
  unfold SQ.into
  rw [e]
  exact (n2.count _).timed _ _
end
theorem told_new {m : SQ} {now : Int} (h : (m.fresh now).come = 0) (x : Int) : m.told now x = 0 := by
  unfold SQ.told SQ.noted
  rw [if_pos h]
theorem when_taken {m : SQ} {now x : Int} (h : m.told now x = 0) : (m.into now x).when = now := by
  unfold SQ.into SQ.timed
  rw [if_pos (.inl h)]
theorem when_le {m : SQ} {now : Int} (h : m.when ≤ now) (x : Int) : (m.into now x).when ≤ now := by
  unfold SQ.into SQ.timed
  split
  · exact Int.le_refl _
  · rw [count_when, (noted_kept _ _).when, (fresh_kept _ _).when]; exact h
theorem when_at {m : SQ} {now : Int} (h : m.when = now) (x : Int) : (m.into now x).when = now := by
  unfold SQ.into SQ.timed
  split
  · rfl
  · rw [count_when, (noted_kept _ _).when, (fresh_kept _ _).when]; exact h
theorem anew_long (way len reset : Int) (p : Option Addr) (n c : Nat) (p' : Option Addr) (n' c' : Nat) (rb : Bool) (w : World) (h : 60 < n ∨ 60 < n') :
    Calls Try.prog 7 #[QV way len reset, .slice p n c, .slice p' n' c', .bool rb] w fun e w' => e = .returned (.bool true) ∧ Below w.heap.size w w' := by
  have HH := Lib.hid head_ret
  by_cases g : 60 < n
  · have d : decide ((60 : Int) < (n : Int)) = true := decide_eq_true (by omega)
    clear h g
    go_enter Try.func7, Try.ntmps7
    go_wp2_with (go_at_call 13; (with_reducible refine (HH.out _).mono ?_); rintro e w1 ⟨rfl, hb⟩; have HB := Lib.hid (bTr (bAl (bRef w) _) hb); clear hb)
    go_ret
    exact ⟨rfl, HB.out⟩
  · have d : decide ((60 : Int) < (n : Int)) = false := decide_eq_false (by omega)
    have d' : decide ((60 : Int) < (n' : Int)) = true := decide_eq_true (by omega)
    clear h g
    go_enter Try.func7, Try.ntmps7
    go_wp2_with (go_at_call 13; (with_reducible refine (HH.out _).mono ?_); rintro e w1 ⟨rfl, hb⟩; have HB := Lib.hid (bTr (bAl (bRef w) _) hb); clear hb)
    go_ret
    exact ⟨rfl, HB.out⟩
theorem anew_bad (way len reset : Int) (p : Option Addr) (n c : Nat) (p' : Option Addr) (n' c' : Nat) (rb : Bool) (w : World) (h : n ≤ 60) (h' : n' ≤ 60) (ho : ¬ okQ way len reset) :
    Calls Try.prog 7 #[QV way len reset, .slice p n c, .slice p' n' c', .bool rb] w fun e w' => e = .returned (.bool true) ∧ Below w.heap.size w w' := by
  have HH := Lib.hid head_ret
  have HC := Lib.hid (fun W => qcheck_no way len reset W ho)
  have d : decide ((60 : Int) < (n : Int)) = false := decide_eq_false (by omega)
  have d' : decide ((60 : Int) < (n' : Int)) = false := decide_eq_false (by omega)
  have K0 := Lib.hid (QB.new w way len reset)
  clear h h' ho
  go_enter Try.func7, Try.ntmps7
  go_wp2_with (first
    | (go_at_call 13; (with_reducible refine (HH.out _).mono ?_); rintro e w1 ⟨rfl, hb⟩; have HB := Lib.hid (bTr (bAl (bRef w) _) hb); obtain ⟨k0, k1, k2⟩ := (K0.out.below hb).cells; clear hb)
    | (go_at_call 18; (with_reducible refine (HC.out _).mono ?_); rintro e w2 ⟨rfl, hb⟩; have HB2 := Lib.hid (bTr HB.out hb); clear hb))
  go_ret
  exact ⟨rfl, HB2.out⟩

def AnwRel (w : World) (b b' n : Nat) (way len reset : Int) (nv kv : Value) (wr : World) : Prop :=
  ∃ (k : Nat) (m : SQ) (now : Int), kv = .int .i64 (k : Int) ∧ nv = .int .i64 now ∧ k ≤ n ∧ Sq wr b m ∧ Sq wr b' (Q0 way len reset 0) ∧ m.Good ∧ (m.way = way ∧ m.len = len ∧ m.reset = reset) ∧ m.when ≤ now ∧ 0 ≤ now ∧ now ≤ (k : Int) * 65535 ∧ QB wr w.heap.size way len reset ∧ Below w.heap.size w wr
def AnwRel2 (w : World) (b b' n : Nat) (way len reset now : Int) (kv : Value) (wr : World) : Prop :=
  ∃ (k : Nat) (m m' : SQ), kv = .int .i64 (k : Int) ∧ k ≤ n ∧ Sq wr b m ∧ Sq wr b' m' ∧ m.Good ∧ m'.Good ∧ Rot 0 (m.fresh now) (m'.fresh now) ∧ (k = 0 → (m.fresh now).come = 0) ∧ (0 < k → m.when = now ∧ m'.when = now) ∧ Below w.heap.size w wr
theorem anw_step {m m' : SQ} {now : Int} {k : Nat} (g : m.Good) (g' : m'.Good) (hr : Rot 0 (m.fresh now) (m'.fresh now)) (hc : k = 0 → (m.fresh now).come = 0) (hw : 0 < k → m.when = now ∧ m'.when = now) (n0 : -9223372036854775808 ≤ now) (n1 : now < 9223372036854775808) {x : Int} (h0 : 0 ≤ x) (h1 : x < 65536) :
    m'.told now x = m.told now x ∧ (k = 0 → m.told now x = 0) ∧ Rot 0 ((m.into now x).fresh now) ((m'.into now x).fresh now) ∧ (m.into now x).when = now ∧ (m'.into now x).when = now := by
  have r := hr.into2 g h0 h1
  rw [show (x + 0) % 65536 = x by omega] at r
  have w0 : k = 0 → m.told now x = 0 := fun e => told_new (hc e) x
  have w1 : (m.into now x).when = now := by
    rcases Nat.eq_zero_or_pos k with e | e
    · exact when_taken (w0 e)
    · exact when_at (hw e).1 x
  have w2 : (m'.into now x).when = now := by
    rcases Nat.eq_zero_or_pos k with e | e
    · exact when_taken (r.1.trans (w0 e))
    · exact when_at (hw e).2 x
  refine ⟨r.1, w0, ?_, w1, w2⟩
  rw [fresh_at (g.into n0 n1 h0 h1) w1, fresh_at (g'.into n0 n1 h0 h1) w2]
  exact r.2
theorem fresh_new {m : SQ} {now : Int} (h : m.come = 0) : m.fresh now = m := by
  unfold SQ.fresh
  rw [if_neg (fun g => g.1 h)]
theorem rot_new {m : SQ} {way len reset now : Int} (hi : m.way = way ∧ m.len = len ∧ m.reset = reset) (h : (m.fresh now).come = 0) : Rot 0 (m.fresh now) ((Q0 way len reset 0).fresh now) := by
  rw [fresh_new (m := Q0 way len reset 0) rfl]
  have k := fresh_kept m now
  exact ⟨(hi.1.symm).trans k.way.symm, (hi.2.1.symm).trans k.len.symm, (hi.2.2.symm).trans k.reset.symm, h.symm, fun g => absurd h g⟩
theorem long_new {m : SQ} {now reset : Int} (hr : m.reset = reset) (hw : m.when ≤ now) : (m.fresh (now + reset)).come = 0 ∨ reset < 1 := by
  by_cases h1 : reset < 1
  · exact .inr h1
  refine .inl ?_
  unfold SQ.fresh
  by_cases hc : m.come = 0
  · rw [if_neg (fun g => g.1 hc)]; exact hc
  · rw [if_pos ⟨hc, by omega, by omega⟩]; rfl
set_option maxRecDepth 20000 in
set_option maxHeartbeats 8000000 in
theorem anew_ok (way len reset : Int) (p : Option Addr) (n c : Nat) (p' : Option Addr) (n' c' : Nat) (rb : Bool) (w : World) (hn : n ≤ 60) (hn' : n' ≤ 60) (h : okQ way len reset) (ha : SlArg 2 Oksandglasslaw13Step w (.slice p n c) n) (ha' : SlArg 1 Okint w (.slice p' n' c') n') :
    Calls Try.prog 7 #[QV way len reset, .slice p n c, .slice p' n' c', .bool rb] w fun e w' => e = .returned (.bool true) ∧ Below w.heap.size w w' := by
  have HH := Lib.hid head_ret
  have HC := Lib.hid (fun W => qcheck_yes way len reset W h)
  have d : decide ((60 : Int) < (n : Int)) = false := decide_eq_false (by omega)
  have d' : decide ((60 : Int) < (n' : Int)) = false := decide_eq_false (by omega)
  have HN := Lib.hid (fun W => qnew_ok way len reset 0 W h)
  have G0 := Lib.hid (Q0_good (now := 0) h (by decide) (by decide))
  have K0 := Lib.hid (QB.new w way len reset)
  have HOK := Lib.hid h
  have HA := Lib.hid ha
  have HA' := Lib.hid ha'
  have Hn := Lib.hid hn
  have Hn' := Lib.hid hn'
  clear h ha hn ha' hn'
  go_enter Try.func7, Try.ntmps7
  go_wp2_with (first
    | (go_at_call 13; (with_reducible refine (HH.out _).mono ?_); rintro e w1 ⟨rfl, hb⟩; have HB := Lib.hid (bTr (bAl (bRef w) _) hb); have K1 := Lib.hid (K0.out.below hb); obtain ⟨k0, k1, k2⟩ := K1.out.cells; clear hb)
    | (go_at_call 18; (with_reducible refine (HC.out _).mono ?_); rintro e w2 ⟨rfl, hb⟩; have HB2 := Lib.hid (bTr HB.out hb); have K2 := Lib.hid (K1.out.below hb); obtain ⟨q0, q1, q2⟩ := K2.out.cells; have ST : Hid True := Lib.hid trivial; clear hb)
    | (go_at_call 14; (with_reducible refine (HN.out _).mono ?_); rintro e w3 ⟨b, rfl, hm, hb0, hb⟩; clear ST; have HB3 := Lib.hid (bTr HB2.out hb); have HM3 := Lib.hid hm; have HBB : Hid (w.heap.size < b) := Lib.hid (by have e1 := lt_of_heap K2.out; omega); have K3 := Lib.hid (K2.out.below hb); obtain ⟨r0, r1, r2⟩ := K3.out.cells; clear hm hb0 hb)
    | (go_at_call 14; (with_reducible refine (HN.out _).mono ?_); rintro e w4 ⟨b', rfl, hm, hb0, hb⟩; have HB4 := Lib.hid (bTr HB3.out hb); have HM4 := Lib.hid (HM3.out.below hb); have HM4' := Lib.hid hm; have K4 := Lib.hid (K3.out.below hb); have HBB' : Hid (b < b') := Lib.hid (by have e1 := HM3.out.lt; omega); clear hm hb0 hb))
  go_loopw [13, 55] (fun nv kv wr => AnwRel w b b' n way len reset nv kv wr) (fun _ kv _ => n - (intOf kv).toNat)
  case atStart => exact ⟨0, _, 0, rfl, rfl, by omega, HM4.out, HM4'.out, G0.out, ⟨rfl, rfl, rfl⟩, Int.le_refl _, Int.le_refl _, by omega, K4.out, HB4.out⟩
  case round =>
    clear HM3 HM4 HM4' HB3 HB2 K2 K3 K4 HB K1 K0 HN HB4 q0 q1 q2 k0 k1 k2 r0 r1 r2
    obtain ⟨k, m, now, rfl, rfl, hk, hm, hm', hg, hi, hw, hn0, hn1, hq, hb⟩ := hrel
    have HM := Lib.hid hm
    have HM' := Lib.hid hm'
    have HG := Lib.hid hg
    have HI := Lib.hid hi
    have HW := Lib.hid hw
    have HQ := Lib.hid hq
    have HB := Lib.hid hb
    clear hm hm' hg hi hw hq hb
    have hn60 := Hn.out
    rcases Nat.lt_or_ge k n with g1 | g1
    · have hd : decide ((k : Int) < (n : Int)) = true := decide_eq_true (by omega)
      obtain ⟨ab, o, F, rfl, hab, hF⟩ := SlArg.at HA.out (by omega)
      obtain ⟨⟨z0, z1, hz, b0, b1⟩, hlen, hc⟩ := hF k g1
      rw [hz] at hc
      have c0 := (HB.out.cell (p := ⟨ab, o + k * 2 + 0, none⟩) hab).trans (hc 0 (by omega))
      have c1 := (HB.out.cell (p := ⟨ab, o + k * 2 + 1, none⟩) hab).trans (hc 1 (by omega))
      rw [Nat.add_zero] at c0
      simp only [List.getElem?_cons_zero, List.getElem?_cons_succ] at c0 c1
      clear hF hc hlen hz F hab
      have e0 := low16 z0
      have e1 := low16 z1
      obtain ⟨Z, hZ⟩ : ∃ Z, z0 % 65536 = Z := ⟨_, rfl⟩
      obtain ⟨S, hS⟩ : ∃ S, z1 % 65536 = S := ⟨_, rfl⟩
      rw [hZ] at e0
      rw [hS] at e1
      have w1 : wrap64 (now + Z) = now + Z := by unfold wrap64; omega
      have hI := fun W (hW : Sq W b m) => in_ok hW HG.out (now + Z) S (by omega) (by omega) (by omega) (by omega)
      have HG2 := Lib.hid (HG.out.into (now := now + Z) (seq := S) (by omega) (by omega) (by omega) (by omega))
      have HWay := Lib.hid (into_way m (now + Z) S)
      have HW2 := Lib.hid (when_le (m := m) (now := now + Z) (by have := HW.out; omega) S)
      have HX : Hid (0 ≤ now + Z ∧ now + Z ≤ ((k + 1 : Nat) : Int) * 65535) := Lib.hid ⟨by omega, by omega⟩
      generalize m.told (now + Z) S = T at *
      generalize m.into (now + Z) S = m2 at *
      have HIn := Lib.hid hI
      have HBL := HBB.out
      have HBL' := HBB'.out
      clear hI hZ hS b0 b1 hn0 hn1
      go_wp2_with (go_at_call 16; (with_reducible refine (HIn.out _ (HM.out.alloc _)).mono ?_); rintro e w5 ⟨rfl, hm, hb⟩; have HM5 := Lib.hid hm; have HM5' := Lib.hid ((HM'.out.alloc _).but hb (by omega)); have HQ5 := Lib.hid ((HQ.out.below (bAl (bRef _) _)).but hb (by omega)); have HB5 := Lib.hid ((HB.out.alloc HB.out.size _).trans (hb.below (Nat.le_of_lt HBB.out) (HM.out.alloc _).lt)); clear hm hb)
      go_roundw
      case rel => exact ⟨k + 1, m2, _, by go_num, rfl, by omega, HM5.out, HM5'.out, HG2.out, ⟨HWay.out.1.trans HI.out.1, HWay.out.2.1.trans HI.out.2.1, HWay.out.2.2.trans HI.out.2.2⟩, HW2.out, HX.out.1, HX.out.2, HQ5.out, HB5.out⟩
      case measure => simp [intOf]; omega
    · obtain rfl : k = n := by omega
      have hd : decide ((k : Int) < (k : Int)) = false := decide_eq_false (by omega)
      obtain ⟨_, _, _, hr1, hr2⟩ := HOK.out
      cases rb
      · have w1 : wrap64 (now + reset) = now + reset := by unfold wrap64; omega
        have HX : Hid (0 ≤ now + reset ∧ now + reset ≤ 2000000000000) := Lib.hid ⟨by omega, by omega⟩
        obtain ⟨q0, q1, q2⟩ := HQ.out.cells
        have HNew := Lib.hid ((long_new HI.out.2.2 HW.out).resolve_right (by omega))
        clear hr1 hr2 hn0 hn1
        go_wp2_with fail
        rw [w1]
        go_loopw [80] (fun kv wr => AnwRel2 w b b' n' way len reset (now + reset) kv wr) (fun kv _ => n' - (intOf kv).toNat)
        case atStart => exact ⟨0, m, _, rfl, by omega, HM.out, HM'.out, HG.out, G0.out, rot_new HI.out HNew.out, fun _ => HNew.out, fun h => absurd h (by omega), HB.out⟩
        case round =>
          obtain ⟨j, u, u', rfl, hj, hu, hu', hg, hg', hr, hc, hw, hb⟩ := hrel
          have HU := Lib.hid hu
          have HU' := Lib.hid hu'
          have HGu := Lib.hid hg
          have HGu' := Lib.hid hg'
          have HBu := Lib.hid hb
          have hn60' := Hn'.out
          have HXX := HX.out
          clear hu hu' hg hg' hb
          rcases Nat.lt_or_ge j n' with g2 | g2
          · have hd2 : decide ((j : Int) < (n' : Int)) = true := decide_eq_true (by omega)
            obtain ⟨ab, o, F, rfl, hab, hF⟩ := SlArg.at HA'.out (by omega)
            obtain ⟨⟨z0, hz, b0⟩, hlen, hcc⟩ := hF j g2
            rw [hz] at hcc
            have c0 := (HBu.out.cell (p := ⟨ab, o + j * 1 + 0, none⟩) hab).trans (hcc 0 (by omega))
            rw [Nat.add_zero, Nat.mul_one] at c0
            simp only [List.getElem?_cons_zero] at c0
            clear hF hcc hlen hz F hab
            have e0 := low16 z0
            obtain ⟨Z, hZ⟩ : ∃ Z, z0 % 65536 = Z := ⟨_, rfl⟩
            rw [hZ] at e0
            obtain ⟨s1, s2, s3, s4, s5⟩ := anw_step (x := Z) HGu.out HGu'.out hr hc hw (by omega) (by omega) (by omega) (by omega)
            have hI := fun W (hW : Sq W b u) => in_ok hW HGu.out (now + reset) Z (by omega) (by omega) (by omega) (by omega)
            have hI' := fun W (hW : Sq W b' u') => in_ok hW HGu'.out (now + reset) Z (by omega) (by omega) (by omega) (by omega)
            rw [s1] at hI'
            have HG2 := Lib.hid (HGu.out.into (now := now + reset) (seq := Z) (by omega) (by omega) (by omega) (by omega))
            have HG2' := Lib.hid (HGu'.out.into (now := now + reset) (seq := Z) (by omega) (by omega) (by omega) (by omega))
            have HS3 := Lib.hid s3
            have HS4 := Lib.hid s4
            have HS5 := Lib.hid s5
            generalize u.told (now + reset) Z = T at *
            generalize u.into (now + reset) Z = m2 at *
            generalize u'.into (now + reset) Z = m2' at *
            have HIn := Lib.hid hI
            have HIn' := Lib.hid hI'
            have HBL' := HBB'.out
            have HBL := HBB.out
            have ht : j = 0 ∧ T = 0 ∨ 0 < j := by
              rcases Nat.eq_zero_or_pos j with e | e
              · exact .inl ⟨e, s2 e⟩
              · exact .inr e
            clear hI hI' s1 s2 s3 s4 s5 hr hc hw hZ b0 HXX
            rcases ht with ⟨rfl, rfl⟩ | hj0
            rotate_left
            have hj1 : ((j : Int) == 0) = false := by simp; omega
            have hj2 : decide (j = 0) = false := decide_eq_false (by omega)
            all_goals
              (try simp only [Nat.add_zero] at c0)
              go_wp2_with (first
                | (go_at_call 16; (with_reducible refine (HIn.out _ HU.out).mono ?_); rintro e w7 ⟨rfl, hm, hb⟩; have HM7 := Lib.hid hm; have HM7' := Lib.hid (HU'.out.but hb (by omega)); have HB7 := Lib.hid (HBu.out.trans (hb.below (Nat.le_of_lt HBB.out) HU.out.lt)); clear hm hb)
                | (go_at_call 16; (with_reducible refine (HIn'.out _ HM7'.out).mono ?_); rintro e w8 ⟨rfl, hm, hb⟩; have HM8' := Lib.hid hm; have HM8 := Lib.hid (HM7.out.but hb (by omega)); have HB8 := Lib.hid (HB7.out.trans (hb.below (by omega) HM7'.out.lt)); clear hm hb))
              go_roundw
              case rel => exact ⟨_ + 1, m2, m2', by go_num, by omega, HM8.out, HM8'.out, HG2.out, HG2'.out, HS3.out, fun h => absurd h (by omega), fun _ => ⟨HS4.out, HS5.out⟩, HB8.out⟩
              case measure => simp [intOf]; omega
          · obtain rfl : j = n' := by omega
            have hd2 : decide ((j : Int) < (j : Int)) = false := decide_eq_false (by omega)
            go_wp2_with fail
            go_ret
            exact ⟨rfl, HBu.out⟩
      · have HX : Hid (0 ≤ now ∧ now ≤ 2000000000000) := Lib.hid ⟨by omega, by omega⟩
        have HRs := Lib.hid (reset_any HM.out)
        have HI5 : Hid (m.anew.way = way ∧ m.anew.len = len ∧ m.anew.reset = reset) := Lib.hid HI.out
        have HNew : Hid ((m.anew.fresh now).come = 0) := Lib.hid (by rw [fresh_new (m := m.anew) rfl]; rfl)
        have HBL := HBB.out
        have HBL' := HBB'.out
        clear hr1 hr2 hn0 hn1
        go_wp2_with (go_at_call 17; (with_reducible refine HRs.out.mono ?_); rintro e w5 ⟨rfl, hm, hb⟩; have HM5 : Hid (Sq w5 b m.anew) := Lib.hid hm; have HM5' := Lib.hid (HM'.out.but hb (by omega)); have HB5 := Lib.hid (HB.out.trans (hb.below (Nat.le_of_lt HBB.out) HM.out.lt)); clear hm hb)
        go_loopw [80] (fun kv wr => AnwRel2 w b b' n' way len reset now kv wr) (fun kv _ => n' - (intOf kv).toNat)
        case atStart => exact ⟨0, m.anew, _, rfl, by omega, HM5.out, HM5'.out, HG.out.anew, G0.out, rot_new HI5.out HNew.out, fun _ => HNew.out, fun h => absurd h (by omega), HB5.out⟩
        case round =>
          obtain ⟨j, u, u', rfl, hj, hu, hu', hg, hg', hr, hc, hw, hb⟩ := hrel
          have HU := Lib.hid hu
          have HU' := Lib.hid hu'
          have HGu := Lib.hid hg
          have HGu' := Lib.hid hg'
          have HBu := Lib.hid hb
          have hn60' := Hn'.out
          have HXX := HX.out
          clear hu hu' hg hg' hb
          rcases Nat.lt_or_ge j n' with g2 | g2
          · have hd2 : decide ((j : Int) < (n' : Int)) = true := decide_eq_true (by omega)
            obtain ⟨ab, o, F, rfl, hab, hF⟩ := SlArg.at HA'.out (by omega)
            obtain ⟨⟨z0, hz, b0⟩, hlen, hcc⟩ := hF j g2
            rw [hz] at hcc
            have c0 := (HBu.out.cell (p := ⟨ab, o + j * 1 + 0, none⟩) hab).trans (hcc 0 (by omega))
            rw [Nat.add_zero, Nat.mul_one] at c0
            simp only [List.getElem?_cons_zero] at c0
            clear hF hcc hlen hz F hab
            have e0 := low16 z0
            obtain ⟨Z, hZ⟩ : ∃ Z, z0 % 65536 = Z := ⟨_, rfl⟩
            rw [hZ] at e0
            obtain ⟨s1, s2, s3, s4, s5⟩ := anw_step (x := Z) HGu.out HGu'.out hr hc hw (by omega) (by omega) (by omega) (by omega)
            have hI := fun W (hW : Sq W b u) => in_ok hW HGu.out (now) Z (by omega) (by omega) (by omega) (by omega)
            have hI' := fun W (hW : Sq W b' u') => in_ok hW HGu'.out (now) Z (by omega) (by omega) (by omega) (by omega)
            rw [s1] at hI'
            have HG2 := Lib.hid (HGu.out.into (now := now) (seq := Z) (by omega) (by omega) (by omega) (by omega))
            have HG2' := Lib.hid (HGu'.out.into (now := now) (seq := Z) (by omega) (by omega) (by omega) (by omega))
            have HS3 := Lib.hid s3
            have HS4 := Lib.hid s4
            have HS5 := Lib.hid s5
            generalize u.told (now) Z = T at *
            generalize u.into (now) Z = m2 at *
            generalize u'.into (now) Z = m2' at *
            have HIn := Lib.hid hI
            have HIn' := Lib.hid hI'
            have HBL' := HBB'.out
            have HBL := HBB.out
            have ht : j = 0 ∧ T = 0 ∨ 0 < j := by
              rcases Nat.eq_zero_or_pos j with e | e
              · exact .inl ⟨e, s2 e⟩
              · exact .inr e
            clear hI hI' s1 s2 s3 s4 s5 hr hc hw hZ b0 HXX
            rcases ht with ⟨rfl, rfl⟩ | hj0
            rotate_left
            have hj1 : ((j : Int) == 0) = false := by simp; omega
            have hj2 : decide (j = 0) = false := decide_eq_false (by omega)
            all_goals
              (try simp only [Nat.add_zero] at c0)
              go_wp2_with (first
                | (go_at_call 16; (with_reducible refine (HIn.out _ HU.out).mono ?_); rintro e w7 ⟨rfl, hm, hb⟩; have HM7 := Lib.hid hm; have HM7' := Lib.hid (HU'.out.but hb (by omega)); have HB7 := Lib.hid (HBu.out.trans (hb.below (Nat.le_of_lt HBB.out) HU.out.lt)); clear hm hb)
                | (go_at_call 16; (with_reducible refine (HIn'.out _ HM7'.out).mono ?_); rintro e w8 ⟨rfl, hm, hb⟩; have HM8' := Lib.hid hm; have HM8 := Lib.hid (HM7.out.but hb (by omega)); have HB8 := Lib.hid (HB7.out.trans (hb.below (by omega) HM7'.out.lt)); clear hm hb))
              go_roundw
              case rel => exact ⟨_ + 1, m2, m2', by go_num, by omega, HM8.out, HM8'.out, HG2.out, HG2'.out, HS3.out, fun h => absurd h (by omega), fun _ => ⟨HS4.out, HS5.out⟩, HB8.out⟩
              case measure => simp [intOf]; omega
          · obtain rfl : j = n' := by omega
            have hd2 : decide ((j : Int) < (j : Int)) = false := decide_eq_false (by omega)
            go_wp2_with fail
            go_ret
            exact ⟨rfl, HBu.out⟩

theorem seqrAnew_holds : Rows.SeqrAnewSaid := seqrAnew_of (fun way len reset v n v' n' rb w _ _ _ ha ha' => by
  obtain ⟨p, c, rfl⟩ := ha.slice
  obtain ⟨p', c', rfl⟩ := ha'.slice
  by_cases hn : 60 < n ∨ 60 < n'
  · exact anew_long way len reset p n c p' n' c' rb w hn
  by_cases h : okQ way len reset
  · exact anew_ok way len reset p n c p' n' c' rb w (by omega) (by omega) h ha ha'
  · exact anew_bad way len reset p n c p' n' c' rb w (by omega) (by omega) h)

end Go.Proofs.Ytkapklgimcmhdaa
