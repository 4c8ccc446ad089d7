/- For every eight rooms and every slice of steps LanesAdds answers true: what was put and not lost waits, went out, or was taken away. No condition. -/
import Derived.Test.YtdjefbnoaclmfaaFLanesAdds
import Derived.Test.YtdjefbnoaclmfaaLnWays
namespace Go.Proofs.Ytdjefbnoaclmfaa
open Go.RowKit Go.Joins

theorem ladds_no (r : Nat → Int) (p : Option Addr) (n c : Nat) (w : World) (h : ¬ okR r 8) :
    Calls Try.prog 6 #[a8 r, .slice p n c] w fun e w' => e = .returned (.bool true) ∧ Below w.heap.size w w' := by
  have HH := Lib.hid lhead_ret
  have HN : Hid (∀ W, Calls Try.prog 8 #[.agg #[.int .i64 (r 0), .int .i64 (r 1), .int .i64 (r 2), .int .i64 (r 3), .int .i64 (r 4), .int .i64 (r 5), .int .i64 (r 6), .int .i64 (r 7)]] W fun e w' => e = .returned (.tuple #[.pointer none, .int .i64 1]) ∧ Below W.heap.size W w') := Lib.hid (fun W => new_no r h W)
  have K0 : Hid ((w.alloc (o8 r)).heap[w.heap.size]? = some (o8 r)) := Lib.hid (heap_alloc_one' w _)
  clear h
  unfold a8
  go_enter Try.func6, Try.ntmps6
  go_wp2_with (first
    | (go_at_call 7; (with_reducible refine (HH.out _).mono ?_); rintro e x1 ⟨rfl, hb⟩; have HB := Lib.hid (bTr (bAl (bRef w) (o8 r)) hb); have K1 := Lib.hid ((hb.block _ (lt_of_heap K0.out)).trans K0.out); have c0 := o8_cells r K1.out (k := 0) (by decide); have c1 := o8_cells r K1.out (k := 1) (by decide); have c2 := o8_cells r K1.out (k := 2) (by decide); have c3 := o8_cells r K1.out (k := 3) (by decide); have c4 := o8_cells r K1.out (k := 4) (by decide); have c5 := o8_cells r K1.out (k := 5) (by decide); have c6 := o8_cells r K1.out (k := 6) (by decide); have c7 := o8_cells r K1.out (k := 7) (by decide); clear hb)
    | (go_at_call 8; (with_reducible refine (HN.out _).mono ?_); rintro e x2 ⟨rfl, hb⟩; have HB2 := Lib.hid (bTr HB.out hb); clear hb))
  go_ret
  exact ⟨rfl, HB2.out⟩
def AddRel (w : World) (b n : Nat) (r : Nat → Int) (pv ov iv : Value) (wr : World) : Prop :=
  ∃ (k p o : Nat) (s : LS) (F : Nat → Prop), iv = .int .i64 (k : Int) ∧ pv = .int .i64 (p : Int) ∧ ov = .int .i64 (o : Int) ∧ k ≤ n ∧ p ≤ k ∧ p = o + s.tot 8 ∧ s.Good ∧ s.r = r ∧ LnB w wr b F s
def SumRel (w : World) (b : Nat) (F : Nat → Prop) (s : LS) (sv iv : Value) (wr : World) : Prop := ∃ k : Nat, k ≤ 8 ∧ iv = .int .i64 (k : Int) ∧ sv = .int .i64 (s.tot k : Int) ∧ LnB w wr b F s
theorem len_nat (s : LS) {k : Nat} (h : k < 8) : s.len (k : Int) = ((s.q k).length : Int) := by
  unfold LS.len
  rw [if_neg (by omega), show (k : Int).toNat = k by omega]
set_option maxRecDepth 20000 in
set_option maxHeartbeats 8000000 in
theorem ladds_yes (r : Nat → Int) (p : Option Addr) (n c : Nat) (w : World) (h : okR r 8) (ha : SlArg 13 Oksandglasslaw15Step w (.slice p n c) n) :
    Calls Try.prog 6 #[a8 r, .slice p n c] w fun e w' => e = .returned (.bool true) ∧ Below w.heap.size w w' := by
  have HH := Lib.hid lhead_ret
  have HN : Hid (∀ W, Below w.heap.size w W → Calls Try.prog 8 #[.agg #[.int .i64 (r 0), .int .i64 (r 1), .int .i64 (r 2), .int .i64 (r 3), .int .i64 (r 4), .int .i64 (r 5), .int .i64 (r 6), .int .i64 (r 7)]] W fun e w' => ∃ b, e = .returned (.tuple #[.pointer (some ⟨b, 0, none⟩), .int .i64 0]) ∧ W.heap.size ≤ b ∧ LnB w w' b (fun k => k = b) (LS.new r) ∧ Below W.heap.size W w') := Lib.hid (fun W hW => new_yes r h w W hW)
  have K0 : Hid ((w.alloc (o8 r)).heap[w.heap.size]? = some (o8 r)) := Lib.hid (heap_alloc_one' w _)
  have HOK := Lib.hid h
  have HA := Lib.hid ha
  clear h ha
  unfold a8
  by_cases hn : 100 < n
  · have d0 : decide ((100 : Int) < (n : Int)) = true := decide_eq_true (by omega)
    go_enter Try.func6, Try.ntmps6
    go_wp2_with (first
      | (go_at_call 7; (with_reducible refine (HH.out _).mono ?_); rintro e x1 ⟨rfl, hb⟩; have HB := Lib.hid (bTr (bAl (bRef w) (o8 r)) hb); have K1 := Lib.hid ((hb.block _ (lt_of_heap K0.out)).trans K0.out); have c0 := o8_cells r K1.out (k := 0) (by decide); have c1 := o8_cells r K1.out (k := 1) (by decide); have c2 := o8_cells r K1.out (k := 2) (by decide); have c3 := o8_cells r K1.out (k := 3) (by decide); have c4 := o8_cells r K1.out (k := 4) (by decide); have c5 := o8_cells r K1.out (k := 5) (by decide); have c6 := o8_cells r K1.out (k := 6) (by decide); have c7 := o8_cells r K1.out (k := 7) (by decide); clear hb)
      | (go_at_call 8; (with_reducible refine (HN.out _ HB.out).mono ?_); rintro e x2 ⟨b, rfl, hlo, hm, hb⟩; have HB2 := Lib.hid hm.bel; clear hlo hm hb))
    go_ret
    exact ⟨rfl, HB2.out⟩
  have d0 : decide ((100 : Int) < (n : Int)) = false := decide_eq_false (by omega)
  have hn100 : n ≤ 100 := by omega
  have HNN := Lib.hid hn100
  go_enter Try.func6, Try.ntmps6
  go_wp2_with (first
    | (go_at_call 7; (with_reducible refine (HH.out _).mono ?_); rintro e x1 ⟨rfl, hb⟩; have HB := Lib.hid (bTr (bAl (bRef w) (o8 r)) hb); have K1 := Lib.hid ((hb.block _ (lt_of_heap K0.out)).trans K0.out); have c0 := o8_cells r K1.out (k := 0) (by decide); have c1 := o8_cells r K1.out (k := 1) (by decide); have c2 := o8_cells r K1.out (k := 2) (by decide); have c3 := o8_cells r K1.out (k := 3) (by decide); have c4 := o8_cells r K1.out (k := 4) (by decide); have c5 := o8_cells r K1.out (k := 5) (by decide); have c6 := o8_cells r K1.out (k := 6) (by decide); have c7 := o8_cells r K1.out (k := 7) (by decide); clear hb)
    | (go_at_call 8; (with_reducible refine (HN.out _ HB.out).mono ?_); rintro e x2 ⟨b, rfl, hlo, hm, hb⟩; have HM2 := Lib.hid hm; clear hlo hm hb))
  clear hn hn100
  go_loopw [7, 8, 32] (fun pv ov iv wr => AddRel w b n r pv ov iv wr) (fun _ _ iv _ => n - (intOf iv).toNat)
  case atStart => exact ⟨0, 0, 0, _, _, rfl, rfl, rfl, by omega, by omega, (by rw [tot_new]), new_good r, rfl, HM2.out⟩
  case round =>
    clear HM2 HB K1 K0 HN HH c0 c1 c2 c3 c4 c5 c6 c7
    obtain ⟨k, pu, o, s, F, rfl, rfl, rfl, hk, hp, ht, hg, hr, hl⟩ := hrel
    have HT := Lib.hid ht
    have HG := Lib.hid hg
    have HL := Lib.hid hl
    have HRR := Lib.hid hr
    have HP := Lib.hid hp
    have hn := HNN.out
    clear ht hg hl hr
    rcases Nat.lt_or_ge k n with g1 | g1
    · have hd : decide ((k : Int) < (n : Int)) = true := decide_eq_true (by omega)
      obtain ⟨ab, ao, Fa, rfl, hab, hF⟩ := SlArg.at HA.out (by omega)
      obtain ⟨⟨z0, z1, z2, z3, z4, z5, z6, z7, z8, z9, z10, z11, z12, hz, bs⟩, hlen, hc⟩ := hF k g1
      rw [hz] at hc
      have hq := fun j hj => (HL.out.bel.cell (p := ⟨ab, ao + k * 13 + j, none⟩) hab).trans (hc j hj)
      have q0 := hq 0 (by omega)
      have q1 := hq 1 (by omega)
      have q2 := hq 2 (by omega)
      have q3 := hq 3 (by omega)
      have q4 := hq 4 (by omega)
      have q5 := hq 5 (by omega)
      have q6 := hq 6 (by omega)
      have q7 := hq 7 (by omega)
      have q8 := hq 8 (by omega)
      have q9 := hq 9 (by omega)
      have q10 := hq 10 (by omega)
      have q11 := hq 11 (by omega)
      have q12 := hq 12 (by omega)
      rw [Nat.add_zero] at q0
      simp only [List.getElem?_cons_zero, List.getElem?_cons_succ] at q0 q1 q2 q3 q4 q5 q6 q7 q8 q9 q10 q11 q12
      clear hq hc hlen hz hF bs
      have hz4 : z0 % 4 = 0 ∨ z0 % 4 = 1 ∨ z0 % 4 = 2 ∨ z0 % 4 = 3 := by omega
      have hlow := low2 z0
      rcases hz4 with e4 | e4 | e4 | e4
      all_goals rw [e4] at hlow
      all_goals clear e4
      · have HX : Hid (∀ W, LnB w W b F s → Calls Try.prog 11 #[.pointer (some ⟨b, 0, none⟩), .int .i64 z1, .agg #[.int .i64 z2, .int .i64 z3, .bool z4]] W fun e w' => e = .returned (.int .i64 (s.pute z1 (z2, z3, z4))) ∧ Left w W b F (s.put z1 (z2, z3, z4)) w') := Lib.hid (fun W h => putB h HG.out z1 (z2, z3, z4))
        have hE := tot_put s z1 (z2, z3, z4)
        have HG2 := Lib.hid (HG.out.put (by rw [HRR.out]; exact HOK.out) z1 (z2, z3, z4))
        have HR2 := Lib.hid ((put_r s z1 (z2, z3, z4)).trans HRR.out)
        generalize s.put z1 (z2, z3, z4) = s' at *
        generalize s.pute z1 (z2, z3, z4) = X at *
        by_cases h0 : X = 0
        · have d1 : (X == 0) = true := by rw [beq_iff_eq]; exact h0
          rw [if_pos h0] at hE
          have e1 : wrap64 ((pu : Int) + 1) = ((pu + 1 : Nat) : Int) := by unfold wrap64; omega
          have HE := Lib.hid hE
          clear hE h0
          go_wp2_with (go_at_call 11; (with_reducible refine (HX.out _ (HL.out.alloc _)).mono ?_); rintro e x3 ⟨rfl, F', hm, _, _⟩; have HM3 := Lib.hid hm; clear hm)
          go_roundw
          case rel => exact ⟨k + 1, pu + 1, o, s', F', by go_num, by go_num, rfl, by omega, by have := HP.out; omega, by have := HT.out; have := HE.out; omega, HG2.out, HR2.out, HM3.out⟩
          case measure => simp [intOf]; omega
        · have d1 : (X == 0) = false := by rw [beq_eq_false_iff_ne]; exact h0
          rw [if_neg h0] at hE
          have HE := Lib.hid hE
          clear hE h0
          go_wp2_with (go_at_call 11; (with_reducible refine (HX.out _ (HL.out.alloc _)).mono ?_); rintro e x3 ⟨rfl, F', hm, _, _⟩; have HM3 := Lib.hid hm; clear hm)
          go_roundw
          case rel => exact ⟨k + 1, pu, o, s', F', by go_num, rfl, rfl, by omega, by have := HP.out; omega, by have := HT.out; have := HE.out; omega, HG2.out, HR2.out, HM3.out⟩
          case measure => simp [intOf]; omega
      · have HX : Hid (∀ W, LnB w W b F s → Calls Try.prog 11 #[.pointer (some ⟨b, 0, none⟩), .int .i64 z1, .agg #[.int .i64 z2, .int .i64 z3, .bool z4]] W fun e w' => e = .returned (.int .i64 (s.pute z1 (z2, z3, z4))) ∧ Left w W b F (s.put z1 (z2, z3, z4)) w') := Lib.hid (fun W h => putB h HG.out z1 (z2, z3, z4))
        have hE := tot_put s z1 (z2, z3, z4)
        have HG2 := Lib.hid (HG.out.put (by rw [HRR.out]; exact HOK.out) z1 (z2, z3, z4))
        have HR2 := Lib.hid ((put_r s z1 (z2, z3, z4)).trans HRR.out)
        generalize s.put z1 (z2, z3, z4) = s' at *
        generalize s.pute z1 (z2, z3, z4) = X at *
        by_cases h0 : X = 0
        · have d1 : (X == 0) = true := by rw [beq_iff_eq]; exact h0
          rw [if_pos h0] at hE
          have e1 : wrap64 ((pu : Int) + 1) = ((pu + 1 : Nat) : Int) := by unfold wrap64; omega
          have HE := Lib.hid hE
          clear hE h0
          go_wp2_with (go_at_call 11; (with_reducible refine (HX.out _ (HL.out.alloc _)).mono ?_); rintro e x3 ⟨rfl, F', hm, _, _⟩; have HM3 := Lib.hid hm; clear hm)
          go_roundw
          case rel => exact ⟨k + 1, pu + 1, o, s', F', by go_num, by go_num, rfl, by omega, by have := HP.out; omega, by have := HT.out; have := HE.out; omega, HG2.out, HR2.out, HM3.out⟩
          case measure => simp [intOf]; omega
        · have d1 : (X == 0) = false := by rw [beq_eq_false_iff_ne]; exact h0
          rw [if_neg h0] at hE
          have HE := Lib.hid hE
          clear hE h0
          go_wp2_with (go_at_call 11; (with_reducible refine (HX.out _ (HL.out.alloc _)).mono ?_); rintro e x3 ⟨rfl, F', hm, _, _⟩; have HM3 := Lib.hid hm; clear hm)
          go_roundw
          case rel => exact ⟨k + 1, pu, o, s', F', by go_num, rfl, rfl, by omega, by have := HP.out; omega, by have := HT.out; have := HE.out; omega, HG2.out, HR2.out, HM3.out⟩
          case measure => simp [intOf]; omega
      · rcases pick_ways s (nth z5 z6 z7 z8 z9 z10 z11 z12) with hno | ⟨cc, x, L, hc8, hq, hx, hm⟩
        · have HX : Hid (∀ W, LnB w W b F s → Calls Try.prog 9 #[.pointer (some ⟨b, 0, none⟩), .agg #[.int .i64 z5, .int .i64 z6, .int .i64 z7, .int .i64 z8, .int .i64 z9, .int .i64 z10, .int .i64 z11, .int .i64 z12]] W fun e w' => e = .returned (.tuple #[.int .i64 0, .agg #[.int .i64 0, .int .i64 0, .bool false], .bool false]) ∧ Left w W b F s w') := Lib.hid (fun W h => pickB_none (left := nth z5 z6 z7 z8 z9 z10 z11 z12) h HG.out hno)
          clear hno
          go_wp2_with (go_at_call 9; (with_reducible refine (HX.out _ (HL.out.alloc _)).mono ?_); rintro e x3 ⟨rfl, F', hm, _, _⟩; have HM3 := Lib.hid (hm.alloc (.cells #[.int .i64 0, .int .i64 0, .bool false] 30)); clear hm)
          go_roundw
          case rel => exact ⟨k + 1, pu, o, s, F', by go_num, rfl, rfl, by omega, by have := HP.out; omega, HT.out, HG.out, HRR.out, HM3.out⟩
          case measure => simp [intOf]; omega
        · have HX : Hid (∀ W, LnB w W b F s → Calls Try.prog 9 #[.pointer (some ⟨b, 0, none⟩), .agg #[.int .i64 z5, .int .i64 z6, .int .i64 z7, .int .i64 z8, .int .i64 z9, .int .i64 z10, .int .i64 z11, .int .i64 z12]] W fun e w' => e = .returned (.tuple #[.int .i64 (cc : Int), .agg #[.int .i64 x.1, .int .i64 x.2.1, .bool x.2.2], .bool true]) ∧ Left w W b F { s with q := upd s.q cc L } w') := Lib.hid (fun W h => pickB_some (left := nth z5 z6 z7 z8 z9 z10 z11 z12) h HG.out hc8 hq hx hm)
          have HG2 := Lib.hid (HG.out.pop hc8 hq)
          have HE := Lib.hid (tot_pop hc8 hq)
          have HR2 : Hid (LS.r { s with q := upd s.q cc L } = r) := Lib.hid HRR.out
          have hpo := HT.out
          generalize ({ s with q := upd s.q cc L } : LS) = s' at *
          obtain ⟨x0, x1, x2⟩ := x
          have e1 : wrap64 ((o : Int) + 1) = ((o + 1 : Nat) : Int) := by unfold wrap64; omega
          clear hc8 hq hx hm hpo
          go_wp2_with (go_at_call 9; (with_reducible refine (HX.out _ (HL.out.alloc _)).mono ?_); rintro e x3 ⟨rfl, F', hm, _, _⟩; have HM3 := Lib.hid (hm.alloc (.cells #[.int .i64 x0, .int .i64 x1, .bool x2] 30)); clear hm)
          go_roundw
          case rel => exact ⟨k + 1, pu, o + 1, s', F', by go_num, rfl, by rw [← e1], by omega, by have := HP.out; omega, by have := HT.out; have := HE.out; omega, HG2.out, HR2.out, HM3.out⟩
          case measure => simp [intOf]; omega
      · have HX : Hid (∀ W, LnB w W b F s → Calls Try.prog 12 #[.pointer (some ⟨b, 0, none⟩)] W fun e w' => e = .returned (.int .i64 (s.tot 8 : Int)) ∧ Left w W b F s.none w') := Lib.hid (fun W h => clearB h HG.out)
        have hpo := HT.out
        generalize s.tot 8 = t at *
        have e1 : wrap64 ((o : Int) + (t : Int)) = ((o + t : Nat) : Int) := by unfold wrap64; omega
        clear hpo
        go_wp2_with (go_at_call 12; (with_reducible refine (HX.out _ (HL.out.alloc _)).mono ?_); rintro e x3 ⟨rfl, F', hm, _, _⟩; have HM3 := Lib.hid hm; clear hm)
        go_roundw
        case rel => exact ⟨k + 1, pu, o + t, s.none, F', by go_num, rfl, by rw [← e1], by omega, by have := HP.out; omega, by have := HT.out; rw [tot_none]; omega, none_good s, HRR.out, HM3.out⟩
        case measure => simp [intOf]; omega
    · obtain rfl : k = n := by omega
      have hd : decide ((k : Int) < (k : Int)) = false := decide_eq_false (by omega)
      go_wp2_with fail
      go_loopw [14, 15] (fun sv iv wr => SumRel w b F s sv iv wr) (fun _ iv _ => 8 - (intOf iv).toNat)
      case atStart => exact ⟨0, by omega, rfl, rfl, HL.out⟩
      case round =>
        clear HL
        obtain ⟨i, hi, rfl, rfl, hl⟩ := hrel
        have HL := Lib.hid hl
        have ht := HG.out.tot i hi
        clear hl
        rcases Nat.lt_or_ge i 8 with g2 | g2
        · have hd2 : decide ((i : Int) < 8) = true := decide_eq_true (by omega)
          have HK := Lib.hid (lenB HL.out (i : Int))
          rw [len_nat s g2] at HK
          have hn := HG.out.ln i g2
          have es : ((s.tot (i + 1) : Nat) : Int) = (s.tot i : Int) + ((s.q i).length : Int) := by
            show ((s.tot i + (s.q i).length : Nat) : Int) = _
            omega
          have HES := Lib.hid es
          generalize s.tot i = t at *
          generalize (s.q i).length = m at *
          have ew : wrap64 ((t : Int) + (m : Int)) = (t : Int) + (m : Int) := by unfold wrap64; omega
          clear es
          go_wp2_with (go_at_call 13; (with_reducible refine HK.out.mono ?_); rintro e w1 ⟨rfl, rfl⟩)
          go_roundw
          case rel => exact ⟨i + 1, by omega, by go_num, by rw [HES.out], HL.out⟩
          case measure => simp [intOf]; omega
        · obtain rfl : i = 8 := by omega
          have hd2 : decide (((8 : Nat) : Int) < 8) = false := by decide
          have hpo := HT.out
          generalize s.tot 8 = t at *
          have e1 : wrap64 ((o : Int) + (t : Int)) = (pu : Int) := by unfold wrap64; omega
          clear hpo ht
          go_wp2_with fail
          go_ret
          exact ⟨rfl, HL.out.bel⟩

theorem lanesAdds_holds : Rows.LanesAddsSaid := lanesAdds_of (fun x0 x1 x2 x3 x4 x5 x6 x7 v n w _ _ _ _ _ _ _ _ ha => by
  obtain ⟨p, c, rfl⟩ := ha.slice
  by_cases h : okR (nth x0 x1 x2 x3 x4 x5 x6 x7) 8
  · exact ladds_yes (nth x0 x1 x2 x3 x4 x5 x6 x7) p n c w h ha
  · exact ladds_no (nth x0 x1 x2 x3 x4 x5 x6 x7) p n c w h)

end Go.Proofs.Ytdjefbnoaclmfaa
