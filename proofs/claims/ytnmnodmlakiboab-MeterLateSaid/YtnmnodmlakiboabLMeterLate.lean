/- For every setup, every slice of steps and every int MeterLate answers true: a call that is refused changes nothing. No condition. -/
import Derived.Test.YtnmnodmlakiboabFMeterLate
import Derived.Test.YtnmnodmlakiboabMtLow
namespace Go.Proofs.Ytnmnodmlakiboab
open Go.RowKit Go.Joins

theorem late_many (r bu mo be x : Int) (cp aw sh : Bool) (p : Option Addr) (n c : Nat) (w : World) (h : 60 < n) :
    Calls Try.prog 6 #[CV r bu mo be cp aw sh, .slice p n c, .int .i64 x] w fun e w' => e = .returned (.bool true) ∧ Below w.heap.size w w' := by
  have HH := Lib.hid head_ret
  have dd : decide ((60 : Int) < (n : Int)) = true := decide_eq_true (by omega)
  clear h
  go_enter Try.func6, Try.ntmps6
  go_wp2_with (go_at_call 8; (with_reducible refine (HH.out _).mono ?_); rintro e w1 ⟨rfl, hb⟩; have HB := Lib.hid hb; clear hb)
  go_ret
  exact ⟨rfl, by first | exact HB.out | exact bTr (bAl (bRef w) _) HB.out⟩
theorem late_bad (r bu mo be x : Int) (cp aw sh : Bool) (p : Option Addr) (n c : Nat) (w : World) (h : n ≤ 60) (ho : ¬ okC r bu mo be) :
    Calls Try.prog 6 #[CV r bu mo be cp aw sh, .slice p n c, .int .i64 x] w fun e w' => e = .returned (.bool true) ∧ Below w.heap.size w w' := by
  have HH := Lib.hid head_ret
  have HC := check_any r bu mo be cp aw sh
  rw [if_neg ho] at HC
  have HC' := Lib.hid HC
  have dd : decide ((60 : Int) < (n : Int)) = false := decide_eq_false (by omega)
  have K0 := Lib.hid (CB.new w r bu mo be cp aw sh)
  clear HC h ho
  go_enter Try.func6, Try.ntmps6
  go_wp2_with (first
    | (go_at_call 8; (with_reducible refine (HH.out _).mono ?_); rintro e w1 ⟨rfl, hb⟩; have HB := Lib.hid (bTr (bAl (bRef w) _) hb); have K1 := Lib.hid (K0.out.below hb); obtain ⟨k0, k1, k2, k3, k4, k5, k6, -⟩ := K1.out.cells; clear hb)
    | (go_at_call 18; (with_reducible refine (HC'.out _).mono ?_); rintro e w2 ⟨rfl, hb⟩; have HB2 := Lib.hid (bTr HB.out hb); clear hb))
  go_ret
  exact ⟨rfl, HB2.out⟩

def LateRel (w : World) (b d n : Nat) (r bu mo be : Int) (cp aw sh : Bool) (nv kv : Value) (wr : World) : Prop :=
  ∃ (k : Nat) (m : MS), kv = .int .i64 (k : Int) ∧ nv = .int .i64 m.last ∧ k ≤ n ∧ Mtr wr b m ∧ Mtr wr d m ∧ m.Good ∧ m.Is r bu mo be cp aw sh ∧ 1000 ≤ m.last ∧ m.last ≤ 1000 + (k : Int) * 1048575 ∧ Below w.heap.size w wr
set_option maxRecDepth 20000 in
set_option maxHeartbeats 4000000 in
theorem late_ok (r bu mo be x : Int) (cp aw sh : Bool) (p : Option Addr) (n c : Nat) (w : World) (hn : n ≤ 60) (h : okC r bu mo be) (ha : SlArg 3 Oksandglasslaw10Step w (.slice p n c) n) :
    Calls Try.prog 6 #[CV r bu mo be cp aw sh, .slice p n c, .int .i64 x] w fun e w' => e = .returned (.bool true) ∧ Below w.heap.size w w' := by
  have HH := Lib.hid head_ret
  have HC := check_any r bu mo be cp aw sh
  rw [if_pos h] at HC
  have HC' := Lib.hid HC
  have dd : decide ((60 : Int) < (n : Int)) = false := decide_eq_false (by omega)
  have l8 := low8 x
  have HN := Lib.hid (fun W => new_ok r bu mo be 1000 cp aw sh W h (by decide) (by decide))
  have G0 := Lib.hid (M0_good (cp := cp) (aw := aw) (sh := sh) h (show (0 : Int) ≤ 1000 by decide) (by decide))
  have K0 := Lib.hid (CB.new w r bu mo be cp aw sh)
  have HA := Lib.hid ha
  have Hn := Lib.hid hn
  obtain ⟨X, hX⟩ : ∃ X, x % 256 = X := ⟨_, rfl⟩
  rw [hX] at l8
  have HXX : Hid (0 ≤ X ∧ X < 256) := Lib.hid (by omega)
  clear HC h ha hn hX
  go_enter Try.func6, Try.ntmps6
  go_wp2_with (first
    | (go_at_call 8; (with_reducible refine (HH.out _).mono ?_); rintro e w1 ⟨rfl, hb⟩; have HB := Lib.hid (bTr (bAl (bRef w) _) hb); have K1 := Lib.hid (K0.out.below hb); obtain ⟨k0, k1, k2, k3, k4, k5, k6, -⟩ := K1.out.cells; clear hb)
    | (go_at_call 18; (with_reducible refine (HC'.out _).mono ?_); rintro e w2 ⟨rfl, hb⟩; have HB2 := Lib.hid (bTr HB.out hb); have K2 := Lib.hid (K1.out.below hb); obtain ⟨q0, q1, q2, q3, q4, q5, q6, q7, q8, q9⟩ := K2.out.cells; clear hb)
    | (go_at_call 9; (with_reducible refine (HN.out w2).mono ?_); rintro e w3 ⟨b, rfl, hm, hb0, hb⟩; have HB3 := Lib.hid (bTr HB2.out hb); have HM3 := Lib.hid hm; have HBB : Hid (w.heap.size < b) := Lib.hid (by have e1 := lt_of_heap K2.out; omega); have K3 := Lib.hid (K2.out.below hb); obtain ⟨r0, r1, r2, r3, r4, r5, r6, -⟩ := K3.out.cells; clear hm hb0 hb)
    | (go_at_call 9; (with_reducible refine (HN.out w3).mono ?_); rintro e w4 ⟨d, rfl, hm, hb0, hb⟩; have HB4 := Lib.hid (bTr HB3.out hb); have HM4 := Lib.hid (HM3.out.below hb); have HD4 := Lib.hid hm; have HBD : Hid (b < d) := Lib.hid (by have e1 := HM3.out.lt; omega); clear hm hb0 hb))
  go_loopw [11, 54] (fun nv kv wr => LateRel w b d n r bu mo be cp aw sh nv kv wr) (fun _ kv _ => n - (intOf kv).toNat)
  case atStart => exact ⟨0, _, rfl, rfl, by omega, HM4.out, HD4.out, G0.out, MS.Is.m0 _ _ _ _ _ _ _ _, Int.le_refl _, by show (1000 : Int) ≤ _; omega, HB4.out⟩
  case round =>
    clear HM4 HB4 HM3 HB3 K3 HB2 K2 HB K1 K0 G0 HN q0 q1 q2 q3 q4 q5 q6 q7 q8 q9 k0 k1 k2 k3 k4 k5 k6 r0 r1 r2 r3 r4 r5 r6 HD4
    obtain ⟨k, m, rfl, rfl, hk, hm, hm2, hg, hi, hn0, hn1, hb⟩ := hrel
    have HM := Lib.hid hm
    have HD := Lib.hid hm2
    have HG := Lib.hid hg
    have HI := Lib.hid hi
    have HB := Lib.hid hb
    have HKN : Hid (b ≠ d) := Lib.hid (by have := HBD.out; omega)
    have HBW : Hid (w.heap.size ≤ b ∧ w.heap.size ≤ d) := Lib.hid ⟨by have := HBB.out; omega, by have := HBB.out; have := HBD.out; omega⟩
    clear hm hm2 hg hi hb
    have hn80 := Hn.out
    rcases Nat.lt_or_ge k n with g1 | g1
    · have hd : decide ((k : Int) < (n : Int)) = true := decide_eq_true (by omega)
      obtain ⟨ab, o, F, rfl, hab, hF⟩ := SlArg.at HA.out (by omega)
      obtain ⟨⟨z0, z1, z2, hz, b0, b1⟩, hlen, hc⟩ := hF k g1
      rw [hz] at hc
      have c0 := (HB.out.cell (p := ⟨ab, o + k * 3 + 0, none⟩) hab).trans (hc 0 (by omega))
      have c1 := (HB.out.cell (p := ⟨ab, o + k * 3 + 1, none⟩) hab).trans (hc 1 (by omega))
      have c2 := (HB.out.cell (p := ⟨ab, o + k * 3 + 2, none⟩) hab).trans (hc 2 (by omega))
      rw [Nat.add_zero] at c0
      simp only [List.getElem?_cons_zero, List.getElem?_cons_succ] at c0 c1 c2
      clear hF hc hlen hz F hab
      have e1 := low20 z0
      have e2 := low10 z1
      obtain ⟨Z, hZ⟩ : ∃ Z, z0 % 1048576 = Z := ⟨_, rfl⟩
      obtain ⟨S, hS⟩ : ∃ S, z1 % 1024 = S := ⟨_, rfl⟩
      rw [hZ] at e1
      rw [hS] at e2
      obtain ⟨N, hN⟩ : ∃ N, m.last + Z = N := ⟨_, rfl⟩
      obtain ⟨Y, hY⟩ : ∃ Y, N - 1 - X - Z = Y := ⟨_, rfl⟩
      have hXX := HXX.out
      have w1 : wrap64 (m.last + Z) = N := by unfold wrap64; omega
      have w2 : wrap64 (N - 1) = N - 1 := by unfold wrap64; omega
      have w3 : wrap64 (N - 1 - X) = N - 1 - X := by unfold wrap64; omega
      have w4 : wrap64 (N - 1 - X - Z) = Y := by unfold wrap64; omega
      have h2 : m.last ≤ N := by omega
      have h3 : N ≤ 1099511627776 := by omega
      have HI1 := Lib.hid (fun W (hW : Mtr W b m) => in_order hW Y 1 false (by omega) (by omega) (by omega))
      have HI2 := Lib.hid (fun W => in_size b N 1601 false W (.inr (by omega)))
      have hI := fun W c (hW : Mtr W c m) => in_ok hW HG.out N S z2 (by omega) (by omega) h2 h3
      have HG2 := Lib.hid (HG.out.into h2 h3 (show 0 ≤ S by omega) z2)
      have HIs := Lib.hid (HI.out.into N S z2)
      have hlast := (m.into_same N S z2).2.2.2.2.2.2.2
      obtain ⟨m', hm'⟩ : ∃ m', m.into N S z2 = m' := ⟨_, rfl⟩
      obtain ⟨T, hT⟩ : ∃ T, m.told N S z2 = T := ⟨_, rfl⟩
      rw [hm'] at HG2 HIs hlast
      simp only [hm', hT] at hI
      have HIn := Lib.hid hI
      have HLa := Lib.hid hlast
      have HX : Hid (1000 ≤ N ∧ N ≤ 1000 + ((k + 1 : Nat) : Int) * 1048575) := Lib.hid ⟨by omega, by omega⟩
      have tz : (Z == 0) = true ∨ (Z == 0) = false := by cases Z == 0 <;> simp
      clear hm' hT hlast hI h2 h3 hZ hS hn0 hn1 hXX hY hN
      rcases tz with tz | tz
      all_goals
        go_wp2_with (first
          | (go_at_call 11; (with_reducible refine (HI1.out _ (HM.out.alloc _)).mono ?_); rintro e w4 ⟨rfl, hb⟩; have HM4 := Lib.hid ((HM.out.alloc _).below hb); have HD4 := Lib.hid ((HD.out.alloc _).below hb); have s4 : w4.cell? ⟨wr.heap.size, 0, none⟩ = some (.int .i64 z0) := (hb.cell (by simp)).trans (by simp); have s4' : w4.cell? ⟨wr.heap.size, 1, none⟩ = some (.int .i64 z1) := (hb.cell (by simp)).trans (by simp); have s4'' : w4.cell? ⟨wr.heap.size, 2, none⟩ = some (.bool z2) := (hb.cell (by simp)).trans (by simp); have HB4 := Lib.hid ((HB.out.alloc HB.out.size _).trans (hb.mono (Nat.le_trans HB.out.size (by simp)))); have l4 : Hid (wr.heap.size < w4.heap.size) := Lib.hid (Nat.lt_of_lt_of_le (by simp) hb.size); clear hb)
          | (go_at_call 11; (with_reducible refine (HI2.out _).mono ?_); rintro e w5 ⟨rfl, hb⟩; have HM5 := Lib.hid (HM4.out.below hb); have HD5 := Lib.hid (HD4.out.below hb); have s5 := (hb.cell (p := ⟨wr.heap.size, 0, none⟩) l4.out).trans s4; have s5' := (hb.cell (p := ⟨wr.heap.size, 1, none⟩) l4.out).trans s4'; have s5'' := (hb.cell (p := ⟨wr.heap.size, 2, none⟩) l4.out).trans s4''; have HB5 := Lib.hid (HB4.out.trans (hb.mono HB4.out.size)); have l5 : Hid (wr.heap.size < w5.heap.size) := Lib.hid (Nat.lt_of_lt_of_le l4.out hb.size); clear hb)
          | (go_at_call 11; (with_reducible refine (HIn.out _ b HM5.out).mono ?_); rintro e w6 ⟨rfl, hm, hb⟩; have HM6 := Lib.hid hm; have HD6 := Lib.hid (HD5.out.but hb (fun e => HKN.out e.symm)); have s6' := (heap_cell (hb.block wr.heap.size l5.out (by have := HM.out.lt; omega)) 1).1.trans s5'; have s6'' := (heap_cell (hb.block wr.heap.size l5.out (by have := HM.out.lt; omega)) 2).1.trans s5''; have HB6 := Lib.hid (HB5.out.trans (hb.below HBW.out.1 HM5.out.lt)); clear hm hb)
          | (go_at_call 11; (with_reducible refine (HIn.out _ d HD6.out).mono ?_); rintro e w7 ⟨rfl, hm, hb⟩; have HD7 := Lib.hid hm; have HM7 := Lib.hid (HM6.out.but hb HKN.out); have HB7 := Lib.hid (HB6.out.trans (hb.below HBW.out.2 HD6.out.lt)); clear hm hb))
        all_goals exact ⟨⟨k + 1, m', by go_num, by rw [HLa.out], by omega, HM7.out, HD7.out, HG2.out, HIs.out, by rw [HLa.out]; exact HX.out.1, by rw [HLa.out]; exact HX.out.2, HB7.out⟩, by simp [intOf]; omega⟩
    · obtain rfl : k = n := by omega
      have hd9 : decide ((k : Int) < (k : Int)) = false := decide_eq_false (by omega)
      have HBt : Hid (∀ W c, Mtr W c m → Calls Try.prog 12 #[.pointer (some ⟨c, 0, none⟩)] W fun e w' => e = .returned (.tuple #[.int .i64 (m.fi / 1000000000), .int .i64 (m.se / 1000000000)]) ∧ Below W.heap.size W w') := Lib.hid (fun W c hW => bits_any hW HG.out)
      go_wp2_with (first
        | (go_at_call 12; (with_reducible refine (HBt.out _ b HM.out).mono ?_); rintro e w4 ⟨rfl, hb⟩; have HD4 := Lib.hid (HD.out.below hb); have HB4 := Lib.hid (HB.out.trans (hb.mono HB.out.size)); clear hb)
        | (go_at_call 12; (with_reducible refine (HBt.out _ d HD4.out).mono ?_); rintro e w5 ⟨rfl, hb⟩; have HB5 := Lib.hid (HB4.out.trans (hb.mono HB4.out.size)); clear hb))
      go_ret
      exact ⟨rfl, HB5.out⟩

theorem meterLate_holds : Rows.MeterLateSaid := meterLate_of (fun r bu mo be cp aw sh v n x w _ _ _ _ ha _ => by
  obtain ⟨p, c, rfl⟩ := ha.slice
  by_cases hn : 60 < n
  · exact late_many r bu mo be x cp aw sh p n c w hn
  by_cases h : okC r bu mo be
  · exact late_ok r bu mo be x cp aw sh p n c w (by omega) h ha
  · exact late_bad r bu mo be x cp aw sh p n c w (by omega) h)

end Go.Proofs.Ytnmnodmlakiboab
