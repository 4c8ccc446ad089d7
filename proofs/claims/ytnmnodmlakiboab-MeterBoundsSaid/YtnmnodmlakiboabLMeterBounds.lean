/- For every setup and every slice of steps MeterBounds answers true: in any time no more bits are green than come at once and what the rate makes of it. No condition. -/
import Derived.Test.YtnmnodmlakiboabFMeterBounds
import Derived.Test.YtnmnodmlakiboabMtLow
namespace Go.Proofs.Ytnmnodmlakiboab
open Go.RowKit Go.Joins

theorem bounds_many (r bu mo be : Int) (cp aw sh : Bool) (p : Option Addr) (n c : Nat) (w : World) (h : 80 < n) :
    Calls Try.prog 4 #[CV r bu mo be cp aw sh, .slice p n c] w fun e w' => e = .returned (.bool true) ∧ Below w.heap.size w w' := by
  have HH := Lib.hid head_ret
  have d : decide ((80 : Int) < (n : Int)) = true := decide_eq_true (by omega)
  clear h
  go_enter Try.func4, Try.ntmps4
  go_wp2_with (go_at_call 8; (with_reducible refine (HH.out _).mono ?_); rintro e w1 ⟨rfl, hb⟩; have HB := Lib.hid (bTr (bAl (bRef w) _) hb); clear hb)
  go_ret
  exact ⟨rfl, HB.out⟩
theorem bounds_bad (r bu mo be : Int) (cp aw sh : Bool) (p : Option Addr) (n c : Nat) (w : World) (h : n ≤ 80) (ho : ¬ okC r bu mo be) :
    Calls Try.prog 4 #[CV r bu mo be cp aw sh, .slice p n c] w fun e w' => e = .returned (.bool true) ∧ Below w.heap.size w w' := by
  have HH := Lib.hid head_ret
  have HC := check_any r bu mo be cp aw sh
  rw [if_neg ho] at HC
  have HC' := Lib.hid HC
  have d : decide ((80 : Int) < (n : Int)) = false := decide_eq_false (by omega)
  have K0 := Lib.hid (CB.new w r bu mo be cp aw sh)
  clear HC h ho
  go_enter Try.func4, Try.ntmps4
  go_wp2_with (first
    | (go_at_call 8; (with_reducible refine (HH.out _).mono ?_); rintro e w1 ⟨rfl, hb⟩; have HB := Lib.hid (bTr (bAl (bRef w) _) hb); obtain ⟨k0, k1, k2, k3, k4, k5, k6, -⟩ := (K0.out.below hb).cells; clear hb)
    | (go_at_call 18; (with_reducible refine (HC'.out _).mono ?_); rintro e w2 ⟨rfl, hb⟩; have HB2 := Lib.hid (bTr HB.out hb); clear hb))
  go_ret
  exact ⟨rfl, HB2.out⟩

theorem bounds_math {m : MS} (g : m.Good) {R U gr now size T : Int} {y : Bool} (hr : m.r = R) (hb : m.bu = U) (hpot : gr * 1000000000 + m.fi ≤ U * 1000000000 + m.last * R) (hl : m.last ≤ now) (hn : now ≤ 1099511627776) (hs : 0 ≤ size) (hT : m.told now size y = T) :
    (T = 0 → (gr + 8 * size) * 1000000000 + (m.into now size y).fi ≤ U * 1000000000 + now * R) ∧ (T ≠ 0 → gr * 1000000000 + (m.into now size y).fi ≤ U * 1000000000 + now * R) := by
  have e1 := mul_bd (d := 1099511627776) g.r0 g.r1 (show 0 ≤ now - m.last by omega) (by have := g.l0; omega)
  have p := fillP_bd g.f0 e1.1 g.bu0
  have h := m.into_fi now size y
  have hw : (m.wait now).fi = fillP m.fi (m.r * (now - m.last)) m.bu := rfl
  rw [hT, hw] at h
  have hx : m.r * (now - m.last) = now * R - m.last * R := by rw [hr, Int.mul_sub, Int.mul_comm R now, Int.mul_comm R m.last]
  rw [hx] at h p
  refine ⟨fun h0 => ?_, fun h0 => ?_⟩
  · rw [h.1 h0]; omega
  · rw [h.2 h0]; omega

def BoundRel (w : World) (b n : Nat) (R U mo be : Int) (cp aw sh : Bool) (nv gv kv : Value) (wr : World) : Prop :=
  ∃ (k : Nat) (m : MS) (now gr : Int), kv = .int .i64 (k : Int) ∧ nv = .int .i64 now ∧ gv = .int .i64 gr ∧ k ≤ n ∧ Mtr wr b m ∧ m.Good ∧ m.Is R U mo be cp aw sh ∧ m.last ≤ now ∧ 0 ≤ now ∧ now ≤ (k : Int) * 16777215 ∧ 0 ≤ gr ∧ gr * 1000000000 + m.fi ≤ U * 1000000000 + m.last * R ∧ CB wr w.heap.size R U mo be cp aw sh ∧ Below w.heap.size w wr
set_option maxRecDepth 20000 in
set_option maxHeartbeats 4000000 in
theorem bounds_ok (r bu mo be : Int) (cp aw sh : Bool) (p : Option Addr) (n c : Nat) (w : World) (hn : n ≤ 80) (h : okC r bu mo be) (ha : SlArg 3 Oksandglasslaw10Step w (.slice p n c) n) :
    Calls Try.prog 4 #[CV r bu mo be cp aw sh, .slice p n c] w fun e w' => e = .returned (.bool true) ∧ Below w.heap.size w w' := by
  have HH := Lib.hid head_ret
  have HC := check_any r bu mo be cp aw sh
  rw [if_pos h] at HC
  have HC' := Lib.hid HC
  have d : decide ((80 : Int) < (n : Int)) = false := decide_eq_false (by omega)
  have l1 := low20 r
  have l2 := low24 bu
  obtain ⟨R, hR⟩ : ∃ R, r % 1048576 = R := ⟨_, rfl⟩
  obtain ⟨U, hU⟩ : ∃ U, bu % 16777216 = U := ⟨_, rfl⟩
  rw [hR] at l1
  rw [hU] at l2
  have hok : okC R U mo be := ⟨⟨by omega, by omega⟩, ⟨by omega, by omega⟩, h.2.2⟩
  have HN := Lib.hid (fun W => new_ok R U mo be 0 cp aw sh W hok (by decide) (by decide))
  have G0 := Lib.hid (M0_good (cp := cp) (aw := aw) (sh := sh) hok (show (0 : Int) ≤ 0 by decide) (by decide))
  have HRU : Hid (0 ≤ R ∧ R < 1048576 ∧ 0 ≤ U ∧ U < 16777216) := Lib.hid ⟨by omega, by omega, by omega, by omega⟩
  have K0 := Lib.hid (CB.new w r bu mo be cp aw sh)
  have HA := Lib.hid ha
  have Hn := Lib.hid hn
  clear HC h ha hn hok hR hU
  go_enter Try.func4, Try.ntmps4
  go_wp2_with (first
    | (go_at_call 8; (with_reducible refine (HH.out _).mono ?_); rintro e w1 ⟨rfl, hb⟩; have HB := Lib.hid (bTr (bAl (bRef w) _) hb); have K1 := Lib.hid (K0.out.below hb); obtain ⟨k0, k1, k2, k3, k4, k5, k6, -⟩ := K1.out.cells; clear hb)
    | (go_at_call 18; (with_reducible refine (HC'.out _).mono ?_); rintro e w2 ⟨rfl, hb⟩; have HB2 := Lib.hid (bTr HB.out hb); have K2 := Lib.hid (K1.out.below hb); obtain ⟨q0, q1, q2, q3, q4, q5, q6, q7, q8, q9⟩ := K2.out.cells; clear hb)
    | (go_at_call 9; (with_reducible refine (HN.out _).mono ?_); rintro e w3 ⟨b, rfl, hm, hb0, hb⟩; have K3 : Hid (CB w3 w.heap.size R U mo be cp aw sh) := Lib.hid (CB.below (heap_setCell_same _ _ 1 _ _ (.int .i64 U) (heap_setCell_same _ _ 0 _ _ (.int .i64 R) K2.out)) hb); have HB3 := Lib.hid (bTr (bSet (bSet HB2.out ⟨w.heap.size, 0, none⟩ (Nat.le_refl _) _) ⟨w.heap.size, 1, none⟩ (Nat.le_refl _) _) hb); have HM3 := Lib.hid hm; have HBB : Hid (w.heap.size < b) := Lib.hid (by have e1 := lt_of_heap K2.out; simp only [World.size_setCell] at hb0; omega); clear hm hb0 hb))
  go_loopw [7, 8, 42] (fun nv gv kv wr => BoundRel w b n R U mo be cp aw sh nv gv kv wr) (fun _ _ kv _ => n - (intOf kv).toNat)
  case atStart => exact ⟨0, _, 0, 0, rfl, rfl, rfl, by omega, HM3.out, G0.out, MS.Is.m0 _ _ _ _ _ _ _ _, Int.le_refl _, Int.le_refl _, by omega, Int.le_refl _, by show 0 * 1000000000 + U * 1000000000 ≤ U * 1000000000 + 0 * R; omega, K3.out, HB3.out⟩
  case round =>
    clear HM3 HB3 HB2 K3 K2 HB K1 K0 G0 HN q0 q1 q2 q3 q4 q5 q6 q7 q8 q9 k0 k1 k2 k3 k4 k5 k6
    obtain ⟨k, m, now, gr, rfl, rfl, rfl, hk, hm, hg, hi, hl, hn0, hn1, hg0, hpot, hcb, hb⟩ := hrel
    have HM := Lib.hid hm
    have HG := Lib.hid hg
    have HI := Lib.hid hi
    have HB := Lib.hid hb
    have HK := Lib.hid hcb
    have HL := Lib.hid hl
    have HP := Lib.hid hpot
    clear hm hg hi hb hcb hpot
    have hn80 := Hn.out
    rcases Nat.lt_or_ge k n with g1 | g1
    · have hd : decide ((k : Int) < (n : Int)) = true := decide_eq_true (by omega)
      obtain ⟨ab, o, F, rfl, hab, hF⟩ := SlArg.at HA.out (by omega)
      obtain ⟨⟨z0, z1, z2, hz, b0, b1⟩, hlen, hc⟩ := hF k g1
      rw [hz] at hc
      have c0 := (HB.out.cell (p := ⟨ab, o + k * 3 + 0, none⟩) hab).trans (hc 0 (by omega))
      have c1 := (HB.out.cell (p := ⟨ab, o + k * 3 + 1, none⟩) hab).trans (hc 1 (by omega))
      have c2 := (HB.out.cell (p := ⟨ab, o + k * 3 + 2, none⟩) hab).trans (hc 2 (by omega))
      rw [Nat.add_zero] at c0
      simp only [List.getElem?_cons_zero, List.getElem?_cons_succ] at c0 c1 c2
      clear hF hc hlen hz F hab
      have e1 := low24 z0
      obtain ⟨Z, hZ⟩ : ∃ Z, z0 % 16777216 = Z := ⟨_, rfl⟩
      rw [hZ] at e1
      have w1 : wrap64 (now + Z) = now + Z := by unfold wrap64; omega
      have h2 : m.last ≤ now + Z := by omega
      have h3 : now + Z ≤ 1099511627776 := by omega
      have HX : Hid (0 ≤ now + Z ∧ now + Z ≤ ((k + 1 : Nat) : Int) * 16777215) := Lib.hid ⟨by omega, by omega⟩
      have H2 := Lib.hid h2
      by_cases hsz : z1 < 0 ∨ 1600 < z1
      · have HIn := Lib.hid (fun W => in_size b (now + Z) z1 z2 W hsz)
        have hs1 : ¬ (0 ≤ z1 ∧ z1 ≤ 1600) := by omega
        clear h2 h3 hZ hn0 hn1 hl
        rcases hsz with hs | hs
        · have t1 : decide (0 ≤ z1) = false := decide_eq_false (by omega)
          clear hs1 hs
          go_wp2_with (go_at_call 11; (with_reducible refine (HIn.out _).mono ?_); rintro e w4 ⟨rfl, hb⟩; have HM4 := Lib.hid ((HM.out.alloc _).below hb); have HB4 := Lib.hid ((HB.out.alloc HB.out.size _).trans (hb.mono (Nat.le_trans HB.out.size (by simp)))); have K4 := Lib.hid ((HK.out.below (bAl (bRef wr) _)).below hb); have s4 : w4.cell? ⟨wr.heap.size, 1, none⟩ = some (.int .i64 z1) := (hb.cell (by simp)).trans (by simp); clear hb)
          exact ⟨⟨k + 1, m, _, gr, by go_num, rfl, rfl, by omega, HM4.out, HG.out, HI.out, H2.out, HX.out.1, HX.out.2, hg0, HP.out, K4.out, HB4.out⟩, by simp [intOf]; omega⟩
        · have t1 : decide (0 ≤ z1) = true := decide_eq_true (by omega)
          have t2 : decide (z1 ≤ 1600) = false := decide_eq_false (by omega)
          clear hs1 hs
          go_wp2_with (go_at_call 11; (with_reducible refine (HIn.out _).mono ?_); rintro e w4 ⟨rfl, hb⟩; have HM4 := Lib.hid ((HM.out.alloc _).below hb); have HB4 := Lib.hid ((HB.out.alloc HB.out.size _).trans (hb.mono (Nat.le_trans HB.out.size (by simp)))); have K4 := Lib.hid ((HK.out.below (bAl (bRef wr) _)).below hb); have s4 : w4.cell? ⟨wr.heap.size, 1, none⟩ = some (.int .i64 z1) := (hb.cell (by simp)).trans (by simp); clear hb)
          exact ⟨⟨k + 1, m, _, gr, by go_num, rfl, rfl, by omega, HM4.out, HG.out, HI.out, H2.out, HX.out.1, HX.out.2, hg0, HP.out, K4.out, HB4.out⟩, by simp [intOf]; omega⟩
      · have hs0 : 0 ≤ z1 := by omega
        have hs1 : z1 ≤ 1600 := by omega
        have hI := fun W (hW : Mtr W b m) => in_ok hW HG.out (now + Z) z1 z2 hs0 hs1 h2 h3
        have HG2 := Lib.hid (HG.out.into h2 h3 hs0 z2)
        have HI2 := Lib.hid (HI.out.into (now + Z) z1 z2)
        have hlast := (m.into_same (now + Z) z1 z2).2.2.2.2.2.2.2
        obtain ⟨T, hT⟩ : ∃ T, m.told (now + Z) z1 z2 = T := ⟨_, rfl⟩
        have hT3 := m.told_cases (now + Z) z1 z2
        have hmath := bounds_math HG.out (gr := gr) HI.out.r HI.out.bu HP.out h2 h3 hs0 hT
        obtain ⟨m', hm'⟩ : ∃ m', m.into (now + Z) z1 z2 = m' := ⟨_, rfl⟩
        rw [hm'] at HG2 HI2 hlast hmath
        rw [hT] at hT3
        simp only [hm', hT] at hI
        have HIn := Lib.hid hI
        have HLa := Lib.hid hlast
        obtain ⟨N, hN⟩ : ∃ N, now + Z = N := ⟨_, rfl⟩
        have hRU := HRU.out
        have hN0 : 0 ≤ N := by omega
        have hN1 : N ≤ 1342177200 := by omega
        have eb := mul_bd hN0 hN1 hRU.1 (show R ≤ 1048576 by omega)
        rw [hN] at hmath
        obtain ⟨P, hP⟩ : ∃ P, N * R = P := ⟨_, rfl⟩
        rw [hP] at hmath eb
        have f0 := HG2.out.f0
        obtain ⟨G, hGd⟩ : ∃ G, (if T = 0 then gr + 8 * z1 else gr) = G := ⟨_, rfl⟩
        have hpg : G * 1000000000 + m'.fi ≤ U * 1000000000 + P ∧ 0 ≤ G := by
          rw [← hGd]
          split
          · rename_i h0; exact ⟨hmath.1 h0, by omega⟩
          · rename_i h0; exact ⟨hmath.2 h0, hg0⟩
        have hPd : 0 ≤ P / 1000000000 := by omega
        have p1 : wrap64 P = P := by unfold wrap64; omega
        have p2 : P.tdiv 1000000000 = P / 1000000000 := Int.tdiv_eq_ediv_of_nonneg eb.1
        have p3 : wrap64 (P / 1000000000) = P / 1000000000 := by unfold wrap64; omega
        have p4 : wrap64 (U + P / 1000000000) = U + P / 1000000000 := by unfold wrap64; omega
        have p5 : decide (U + P / 1000000000 < G) = false := decide_eq_false (by omega)
        have p6 : wrap64 (8 * z1) = 8 * z1 := by unfold wrap64; omega
        have p7 : T = 0 → wrap64 (gr + 8 * z1) = G := fun h0 => by rw [if_pos h0] at hGd; rw [← hGd]; unfold wrap64; omega
        have p8 : T ≠ 0 → gr = G := fun h0 => by rw [if_neg h0] at hGd; exact hGd
        have b1' := HG2.out.f1
        have b2' := HG2.out.s0
        have b3' := HG2.out.s1
        rw [HI2.out.bu] at b1'
        rw [HI2.out.be] at b3'
        have HBt : Hid (∀ W, Mtr W b m' → Calls Try.prog 12 #[.pointer (some ⟨b, 0, none⟩)] W fun e w' => e = .returned (.tuple #[.int .i64 (m'.fi / 1000000000), .int .i64 (m'.se / 1000000000)]) ∧ Below W.heap.size W w') := Lib.hid (fun W hW => bits_any hW HG2.out)
        obtain ⟨x1, hx1⟩ : ∃ x1, m'.fi / 1000000000 = x1 := ⟨_, rfl⟩
        obtain ⟨x2, hx2⟩ : ∃ x2, m'.se / 1000000000 = x2 := ⟨_, rfl⟩
        rw [hx1, hx2] at HBt
        have y1 : decide (U < x1) = false := decide_eq_false (by omega)
        have y2 : decide (be < x2) = false := decide_eq_false (by omega)
        have y3 : decide (x1 < 0) = false := decide_eq_false (by omega)
        have y4 : decide (x2 < 0) = false := decide_eq_false (by omega)
        have HPG := Lib.hid hpg
        have HPP : Hid (m'.last * R = P) := Lib.hid (by rw [HLa.out, hN, hP])
        have HX2 : Hid (0 ≤ N ∧ N ≤ ((k + 1 : Nat) : Int) * 16777215 ∧ m'.last ≤ N) := Lib.hid ⟨by omega, by have := HX.out.2; omega, by rw [HLa.out, hN]; exact Int.le_refl _⟩
        rw [hN] at HIn w1
        have hKN : Hid (w.heap.size ≠ b) := Lib.hid (by have := HBB.out; omega)
        clear hmath hm' hT hlast hI h2 h3 hZ hn0 hn1 hl hpg hPd f0 b1' b2' b3' eb hx1 hx2 hRU hN0 hN1 hs0 hs1 hsz
        rcases hT3 with rfl | rfl | rfl
        · have p9 := p7 rfl
          clear p7 p8 hGd
          go_wp2_with (first
            | (go_at_call 11; (with_reducible refine (HIn.out _ (HM.out.alloc _)).mono ?_); rintro e w4 ⟨rfl, hm, hb⟩; have HM4 := Lib.hid hm; have s4 : w4.cell? ⟨wr.heap.size, 1, none⟩ = some (.int .i64 z1) := (heap_cell (hb.block wr.heap.size (by simp) (by have := HM.out.lt; omega)) 1).1.trans (by simp); have HB4 := Lib.hid ((HB.out.alloc HB.out.size _).trans (hb.below (Nat.le_of_lt HBB.out) (HM.out.alloc _).lt)); have K4 := Lib.hid ((HK.out.below (bAl (bRef wr) _)).but hb hKN.out); obtain ⟨k0, k1, k2, k3, -⟩ := K4.out.cells; clear hm hb)
            | (go_at_call 12; (with_reducible refine (HBt.out _ (HM4.out)).mono ?_); rintro e w5 ⟨rfl, hb⟩; have HM5 := Lib.hid (HM4.out.below hb); have HB5 := Lib.hid (HB4.out.trans (hb.mono HB4.out.size)); have K5 := Lib.hid (K4.out.below hb); obtain ⟨i0, i1, i2, i3, -⟩ := K5.out.cells; clear hb))
          exact ⟨⟨k + 1, m', N, _, by go_num, rfl, rfl, by omega, HM5.out, HG2.out, HI2.out, HX2.out.2.2, HX2.out.1, HX2.out.2.1, HPG.out.2, by rw [HPP.out]; exact HPG.out.1, K5.out, HB5.out⟩, by simp [intOf]; omega⟩
        all_goals
          have p9 := p8 (by decide)
          clear p7 p8 hGd
          subst p9
          go_wp2_with (first
            | (go_at_call 11; (with_reducible refine (HIn.out _ (HM.out.alloc _)).mono ?_); rintro e w4 ⟨rfl, hm, hb⟩; have HM4 := Lib.hid hm; have s4 : w4.cell? ⟨wr.heap.size, 1, none⟩ = some (.int .i64 z1) := (heap_cell (hb.block wr.heap.size (by simp) (by have := HM.out.lt; omega)) 1).1.trans (by simp); have HB4 := Lib.hid ((HB.out.alloc HB.out.size _).trans (hb.below (Nat.le_of_lt HBB.out) (HM.out.alloc _).lt)); have K4 := Lib.hid ((HK.out.below (bAl (bRef wr) _)).but hb hKN.out); obtain ⟨k0, k1, k2, k3, -⟩ := K4.out.cells; clear hm hb)
            | (go_at_call 12; (with_reducible refine (HBt.out _ (HM4.out)).mono ?_); rintro e w5 ⟨rfl, hb⟩; have HM5 := Lib.hid (HM4.out.below hb); have HB5 := Lib.hid (HB4.out.trans (hb.mono HB4.out.size)); have K5 := Lib.hid (K4.out.below hb); obtain ⟨i0, i1, i2, i3, -⟩ := K5.out.cells; clear hb))
          exact ⟨⟨k + 1, m', N, _, by go_num, rfl, rfl, by omega, HM5.out, HG2.out, HI2.out, HX2.out.2.2, HX2.out.1, HX2.out.2.1, HPG.out.2, by rw [HPP.out]; exact HPG.out.1, K5.out, HB5.out⟩, by simp [intOf]; omega⟩
    · obtain rfl : k = n := by omega
      have hd : decide ((k : Int) < (k : Int)) = false := decide_eq_false (by omega)
      go_wp2_with fail
      go_ret
      exact ⟨rfl, HB.out⟩

theorem meterBounds_holds : Rows.MeterBoundsSaid := meterBounds_of (fun r bu mo be cp aw sh v n w _ _ _ _ ha => by
  obtain ⟨p, c, rfl⟩ := ha.slice
  by_cases hn : 80 < n
  · exact bounds_many r bu mo be cp aw sh p n c w hn
  by_cases h : okC r bu mo be
  · exact bounds_ok r bu mo be cp aw sh p n c w (by omega) h ha
  · exact bounds_bad r bu mo be cp aw sh p n c w (by omega) h)

end Go.Proofs.Ytnmnodmlakiboab
