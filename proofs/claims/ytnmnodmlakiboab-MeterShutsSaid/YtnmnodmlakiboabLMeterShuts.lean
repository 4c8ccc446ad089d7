/- For every setup and every slice of steps MeterShuts answers true: behind a red one all are red, if that is so set, till it is opened. No condition. -/
import Derived.Test.YtnmnodmlakiboabFMeterShuts
import Derived.Test.YtnmnodmlakiboabMtLow
namespace Go.Proofs.Ytnmnodmlakiboab
open Go.RowKit Go.Joins

theorem shuts_many (r bu mo be : Int) (cp aw sh : Bool) (p : Option Addr) (n c : Nat) (w : World) (h : 80 < n) :
    Calls Try.prog 5 #[CV r bu mo be cp aw sh, .slice p n c] w fun e w' => e = .returned (.bool true) ∧ Below w.heap.size w w' := by
  have HH := Lib.hid head_ret
  have d : decide ((80 : Int) < (n : Int)) = true := decide_eq_true (by omega)
  clear h
  go_enter Try.func5, Try.ntmps5
  go_wp2_with (go_at_call 8; (with_reducible refine (HH.out _).mono ?_); rintro e w1 ⟨rfl, hb⟩; have HB := Lib.hid (bTr (bAl (bRef w) _) hb); clear hb)
  go_ret
  exact ⟨rfl, HB.out⟩
theorem shuts_bad (r bu mo be : Int) (cp aw sh : Bool) (p : Option Addr) (n c : Nat) (w : World) (h : n ≤ 80) (ho : ¬ okC r bu mo be) :
    Calls Try.prog 5 #[CV r bu mo be cp aw sh, .slice p n c] w fun e w' => e = .returned (.bool true) ∧ Below w.heap.size w w' := by
  have HH := Lib.hid head_ret
  have HC := check_any r bu mo be cp aw sh
  rw [if_neg ho] at HC
  have HC' := Lib.hid HC
  have d : decide ((80 : Int) < (n : Int)) = false := decide_eq_false (by omega)
  have K0 := Lib.hid (CB.new w r bu mo be cp aw sh)
  clear HC h ho
  go_enter Try.func5, Try.ntmps5
  go_wp2_with (first
    | (go_at_call 8; (with_reducible refine (HH.out _).mono ?_); rintro e w1 ⟨rfl, hb⟩; have HB := Lib.hid (bTr (bAl (bRef w) _) hb); obtain ⟨k0, k1, k2, k3, k4, k5, k6, -⟩ := (K0.out.below hb).cells; clear hb)
    | (go_at_call 18; (with_reducible refine (HC'.out _).mono ?_); rintro e w2 ⟨rfl, hb⟩; have HB2 := Lib.hid (bTr HB.out hb); clear hb))
  go_ret
  exact ⟨rfl, HB2.out⟩

def ShutRel (w : World) (b n : Nat) (r bu mo be : Int) (cp aw : Bool) (sv nv kv : Value) (wr : World) : Prop :=
  ∃ (k : Nat) (m : MS) (now : Int), kv = .int .i64 (k : Int) ∧ sv = .bool m.off ∧ nv = .int .i64 now ∧ k ≤ n ∧ Mtr wr b m ∧ m.Good ∧ m.Is r bu mo be cp aw true ∧ m.last ≤ now ∧ 0 ≤ now ∧ now ≤ (k : Int) * 16777215 ∧ Below w.heap.size w wr
set_option maxRecDepth 20000 in
set_option maxHeartbeats 4000000 in
theorem shuts_ok (r bu mo be : Int) (cp aw sh : Bool) (p : Option Addr) (n c : Nat) (w : World) (hn : n ≤ 80) (h : okC r bu mo be) (ha : SlArg 3 Oksandglasslaw10Step w (.slice p n c) n) :
    Calls Try.prog 5 #[CV r bu mo be cp aw sh, .slice p n c] w fun e w' => e = .returned (.bool true) ∧ Below w.heap.size w w' := by
  have HH := Lib.hid head_ret
  have HC := check_any r bu mo be cp aw sh
  rw [if_pos h] at HC
  have HC' := Lib.hid HC
  have d : decide ((80 : Int) < (n : Int)) = false := decide_eq_false (by omega)
  have HN := Lib.hid (fun W => new_ok r bu mo be 0 cp aw true W h (by decide) (by decide))
  have G0 := Lib.hid (M0_good (cp := cp) (aw := aw) (sh := true) h (show (0 : Int) ≤ 0 by decide) (by decide))
  have K0 := Lib.hid (CB.new w r bu mo be cp aw sh)
  have HA := Lib.hid ha
  have Hn := Lib.hid hn
  clear HC h ha hn
  go_enter Try.func5, Try.ntmps5
  go_wp2_with (first
    | (go_at_call 8; (with_reducible refine (HH.out _).mono ?_); rintro e w1 ⟨rfl, hb⟩; have HB := Lib.hid (bTr (bAl (bRef w) _) hb); have K1 := Lib.hid (K0.out.below hb); obtain ⟨k0, k1, k2, k3, k4, k5, k6, -⟩ := K1.out.cells; clear hb)
    | (go_at_call 18; (with_reducible refine (HC'.out _).mono ?_); rintro e w2 ⟨rfl, hb⟩; have HB2 := Lib.hid (bTr HB.out hb); have K2 := Lib.hid (K1.out.below hb); obtain ⟨q0, q1, q2, q3, q4, q5, q6, q7, q8, q9⟩ := K2.out.cells; clear hb)
    | (go_at_call 9; (with_reducible refine (HN.out _).mono ?_); rintro e w3 ⟨b, rfl, hm, hb0, hb⟩; have HB3 := Lib.hid (bTr (bSet HB2.out ⟨w.heap.size, 6, none⟩ (Nat.le_refl _) _) hb); have HM3 := Lib.hid hm; have HBB : Hid (w.heap.size < b) := Lib.hid (by have e1 := lt_of_heap K2.out; simp only [World.size_setCell] at hb0; omega); clear hm hb0 hb))
  go_loopw [7, 8, 33] (fun sv nv kv wr => ShutRel w b n r bu mo be cp aw sv nv kv wr) (fun _ _ kv _ => n - (intOf kv).toNat)
  case atStart => exact ⟨0, _, 0, rfl, rfl, rfl, by omega, HM3.out, G0.out, MS.Is.m0 _ _ _ _ _ _ _ _, Int.le_refl _, Int.le_refl _, by omega, HB3.out⟩
  case round =>
    clear HM3 HB3 HB2 K2 HB K1 K0 G0 HN q0 q1 q2 q3 q4 q5 q6 q7 q8 q9 k0 k1 k2 k3 k4 k5 k6
    obtain ⟨k, m, now, rfl, rfl, rfl, hk, hm, hg, hi, hl, hn0, hn1, hb⟩ := hrel
    have HM := Lib.hid hm
    have HG := Lib.hid hg
    have HI := Lib.hid hi
    have HB := Lib.hid hb
    clear hm hg hi hb
    have hn80 := Hn.out
    rcases Nat.lt_or_ge k n with g1 | g1
    · have hd : decide ((k : Int) < (n : Int)) = true := decide_eq_true (by omega)
      obtain ⟨ab, o, F, rfl, hab, hF⟩ := SlArg.at HA.out (by omega)
      obtain ⟨⟨z0, z1, z2, hz, b0, b1⟩, hlen, hc⟩ := hF k g1
      rw [hz] at hc
      have c0 := (HB.out.cell (p := ⟨ab, o + k * 3 + 0, none⟩) hab).trans (hc 0 (by omega))
      have c1 := (HB.out.cell (p := ⟨ab, o + k * 3 + 1, none⟩) hab).trans (hc 1 (by omega))
      have c2 := (HB.out.cell (p := ⟨ab, o + k * 3 + 2, none⟩) hab).trans (hc 2 (by omega))
      rw [Nat.add_zero] at c0
      simp only [List.getElem?_cons_zero, List.getElem?_cons_succ] at c0 c1 c2
      clear hF hc hlen hz F hab
      have e1 := low24 z0
      have e2 := low10 z1
      have e3 := low3 z0
      obtain ⟨Z, hZ⟩ : ∃ Z, z0 % 16777216 = Z := ⟨_, rfl⟩
      obtain ⟨S, hS⟩ : ∃ S, z1 % 1024 = S := ⟨_, rfl⟩
      rw [hZ] at e1
      rw [hS] at e2
      have w1 : wrap64 (now + Z) = now + Z := by unfold wrap64; omega
      have h2 : m.last ≤ now + Z := by omega
      have h3 : now + Z ≤ 1099511627776 := by omega
      have hI := fun W (hW : Mtr W b m) => in_ok hW HG.out (now + Z) S z2 (by omega) (by omega) h2 h3
      have HG2 := Lib.hid (HG.out.into h2 h3 (show 0 ≤ S by omega) z2)
      have HI2 := Lib.hid (HI.out.into (now + Z) S z2)
      have hoff := MS.into_off HI.out.sh (now + Z) S z2
      have hlast := (m.into_same (now + Z) S z2).2.2.2.2.2.2.2
      have HX : Hid (0 ≤ now + Z ∧ now + Z ≤ ((k + 1 : Nat) : Int) * 16777215) := Lib.hid ⟨by omega, by omega⟩
      obtain ⟨m', hm'⟩ : ∃ m', m.into (now + Z) S z2 = m' := ⟨_, rfl⟩
      obtain ⟨T, hT⟩ : ∃ T, m.told (now + Z) S z2 = T := ⟨_, rfl⟩
      have hT3 := m.told_cases (now + Z) S z2
      rw [hm'] at HG2 HI2 hoff hlast
      simp only [hm', hT] at hI
      rw [hT] at hoff hT3
      have HIn := Lib.hid hI
      have HLa := Lib.hid hlast
      have h3c : (m.off = true ∧ T = 2 ∧ m'.off = true) ∨ (m.off = false ∧ T = 2 ∧ m'.off = true) ∨ (m.off = false ∧ T = 0 ∧ m'.off = false) ∨ (m.off = false ∧ T = 1 ∧ m'.off = false) := by
        obtain ⟨o1, o2⟩ := hoff
        cases ho : m.off
        · rw [ho] at o2
          rcases hT3 with rfl | rfl | rfl
          · exact .inr (.inr (.inl ⟨rfl, rfl, o2⟩))
          · exact .inr (.inr (.inr ⟨rfl, rfl, o2⟩))
          · exact .inr (.inl ⟨rfl, rfl, o2⟩)
        · have := o1 ho
          subst this
          rw [ho] at o2
          exact .inl ⟨rfl, rfl, o2⟩
      clear hm' hT hT3 hoff hlast hI h2 h3 hZ hS hl hn0 hn1
      rcases h3c with ⟨a1, rfl, a3⟩ | ⟨a1, rfl, a3⟩ | ⟨a1, rfl, a3⟩ | ⟨a1, rfl, a3⟩
      all_goals
        rw [a1]
        have HS : Hid (∀ W, Mtr W b m' → Calls Try.prog 14 #[.pointer (some ⟨b, 0, none⟩)] W fun e w' => e = .returned (.bool m'.off) ∧ Below W.heap.size W w') := Lib.hid (fun W h => shut_any h)
        rw [a3] at HS
        have A3 := Lib.hid a3
        clear a1 a3
        by_cases h8 : z0 % 8 = 0
        all_goals
          go_wp2_with (first
            | (go_at_call 11; (with_reducible refine (HIn.out _ (HM.out.alloc _)).mono ?_); rintro e w4 ⟨rfl, hm, hb⟩; have HM4 := Lib.hid hm; have s4 : w4.cell? ⟨wr.heap.size, 0, none⟩ = some (.int .i64 z0) := (heap_cell (hb.block wr.heap.size (by simp) (by have := HM.out.lt; omega)) 0).1.trans (by simp); have HB4 := Lib.hid ((HB.out.alloc HB.out.size _).trans (hb.below (Nat.le_of_lt HBB.out) (HM.out.alloc _).lt)); clear hm hb)
            | (go_at_call 14; (with_reducible refine (HS.out _ HM4.out).mono ?_); rintro e w5 ⟨rfl, hb⟩; have HM5 := Lib.hid (HM4.out.below hb); have HB5 := Lib.hid (HB4.out.trans (hb.mono HB4.out.size)); have s5 := (hb.cell (p := ⟨wr.heap.size, 0, none⟩) (block_lt_cell s4)).trans s4; clear hb)
            | (go_at_call 14; (with_reducible refine (HS.out _ HM5.out).mono ?_); rintro e w6 ⟨rfl, hb⟩; have HM6 := Lib.hid (HM5.out.below hb); have HB6 := Lib.hid (HB5.out.trans (hb.mono HB5.out.size)); have s6 := (hb.cell (p := ⟨wr.heap.size, 0, none⟩) (block_lt_cell s5)).trans s5; clear hb)
            | (go_at_call 13; (with_reducible refine (open_any HM6.out).mono ?_); rintro e w7 ⟨rfl, hm, hb⟩; have HM7 := Lib.hid hm; have HB7 := Lib.hid (HB6.out.trans (hb.below (Nat.le_of_lt HBB.out) HM6.out.lt)); clear hm hb))
          all_goals go_roundw
          case rel => first
            | exact ⟨k + 1, _, _, by go_num, rfl, rfl, by omega, HM7.out, HG2.out.opened false, HI2.out.opened false, by rw [show ({ m' with off := false } : MS).last = m'.last from rfl, HLa.out]; exact Int.le_refl _, HX.out.1, HX.out.2, HB7.out⟩
            | exact ⟨k + 1, m', _, by go_num, by rw [A3.out], rfl, by omega, HM6.out, HG2.out, HI2.out, by rw [HLa.out]; exact Int.le_refl _, HX.out.1, HX.out.2, HB6.out⟩
          case measure => simp [intOf]; omega
    · obtain rfl : k = n := by omega
      have hd : decide ((k : Int) < (k : Int)) = false := decide_eq_false (by omega)
      go_wp2_with fail
      go_ret
      exact ⟨rfl, HB.out⟩

theorem meterShuts_holds : Rows.MeterShutsSaid := meterShuts_of (fun r bu mo be cp aw sh v n w _ _ _ _ ha => by
  obtain ⟨p, c, rfl⟩ := ha.slice
  by_cases hn : 80 < n
  · exact shuts_many r bu mo be cp aw sh p n c w hn
  by_cases h : okC r bu mo be
  · exact shuts_ok r bu mo be cp aw sh p n c w (by omega) h ha
  · exact shuts_bad r bu mo be cp aw sh p n c w (by omega) h)

end Go.Proofs.Ytnmnodmlakiboab
