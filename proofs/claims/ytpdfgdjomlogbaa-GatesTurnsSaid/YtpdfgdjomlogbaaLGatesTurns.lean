/- For every list of gates and int GatesTurns answers true: when the next cycle begins, and that the gates do there what they do at its base. No condition. -/
import Derived.Test.YtpdfgdjomlogbaaFGatesTurns
import Derived.Test.YtpdfgdjomlogbaaGtHand
import Derived.Deep.RegionHeld3
namespace Go.Proofs.Ytpdfgdjomlogbaa
open Go.RowKit Go.Joins

set_option maxHeartbeats 1000000 in
theorem turns_long (b c : Int) (p : Option Addr) (n cap : Nat) (x : Int) (w : World) (h64 : 64 < n) :
    Calls Try.prog 6 #[LV b c (.slice p n cap), .int .i64 x] w fun e w' => e = .returned (.bool true) ∧ Below w.heap.size w w' := by
  have H1 := Lib.hid state_head
  have H2 := Lib.hid turns_head
  have HL0 := Lib.hid (LB.new w b c (.slice p n cap))
  have d1 : decide (64 < (n : Int)) = true := decide_eq_true (by omega)
  clear h64
  go_enter Try.func6, Try.ntmps6
  go_wp2_with (first
    | (go_at_call 22; (with_reducible refine (H2.out _).mono ?_); rintro e w1 ⟨rfl, hb⟩; have L1 := Lib.hid (HL0.out.below hb); have B1 := Lib.hid (bTr (bAl (bRef w) _) hb); clear hb)
    | (go_at_call 10; (with_reducible refine (H1.out _).mono ?_); rintro e w2 ⟨rfl, hb⟩; have L2 := Lib.hid (L1.out.below hb); obtain ⟨l0, l1, l2⟩ := L2.out.cells; have B2 := Lib.hid (bTr B1.out hb); clear hb))
  go_ret
  exact ⟨rfl, B2.out⟩
set_option maxHeartbeats 1000000 in
theorem turns_no (b c : Int) (sl : Value) (ts : List (Int × Int)) (x : Int) (w : World) (h : TArg w sl ts) (h64 : ¬ 64 < ts.length) (ht : ¬ Tells b c ts x) :
    Calls Try.prog 6 #[LV b c sl, .int .i64 x] w fun e w' => e = .returned (.bool true) ∧ Below w.heap.size w w' := by
  have H1 := Lib.hid state_head
  have H2 := Lib.hid turns_head
  have HL0 := Lib.hid (LB.new w b c sl)
  have HA0 := Lib.hid (h.below (bAl (bRef w) (BO b c sl)))
  have HC := Lib.hid (check_any b c sl ts)
  have HI := Lib.hid (inside_any x)
  have HT := Lib.hid (turn_any b c sl ts x)
  rw [turnV_no ht] at HT
  have d1 : decide (64 < (ts.length : Int)) = false := decide_eq_false (by omega)
  obtain ⟨p, cap, rfl⟩ := h.slice
  by_cases hc : chkV b c ts = 0
  · rw [decide_eq_false (fun k => ht ⟨k, hc⟩)] at HI
    rw [hc] at HC
    generalize ts.length = n at *
    clear h64 hc h ht
    go_enter Try.func6, Try.ntmps6
    go_wp2_with (first
      | (go_at_call 22; (with_reducible refine (H2.out _).mono ?_); rintro e w1 ⟨rfl, hb⟩; have L1 := Lib.hid (HL0.out.below hb); have A1 := Lib.hid (HA0.out.below hb); have B1 := Lib.hid (bTr (bAl (bRef w) _) hb); clear hb)
      | (go_at_call 10; (with_reducible refine (H1.out _).mono ?_); rintro e w2 ⟨rfl, hb⟩; have L2 := Lib.hid (L1.out.below hb); have A2 := Lib.hid (A1.out.below hb); obtain ⟨l0, l1, l2⟩ := L2.out.cells; have B2 := Lib.hid (bTr B1.out hb); clear hb)
      | (go_at_call 23; (with_reducible refine (HT.out _ A2.out).mono ?_); rintro e w3 ⟨rfl, hb⟩; have L3 := Lib.hid (L2.out.below hb); have A3 := Lib.hid (A2.out.below hb); obtain ⟨j0, j1, j2⟩ := L3.out.cells; have B3 := Lib.hid (bTr B2.out hb); clear hb)
      | (go_at_call 13; (with_reducible refine (HC.out _ A3.out).mono ?_); rintro e w4 ⟨rfl, hb⟩; have B4 := Lib.hid (bTr B3.out hb); clear hb)
      | (go_at_call 15; (with_reducible refine (HI.out.go _).mono ?_); rintro e w5 ⟨rfl, rfl⟩))
    go_ret
    exact ⟨rfl, B4.out⟩
  · have d2 : (chkV b c ts != 0) = true := by simpa using hc
    generalize chkV b c ts = z at *
    generalize ts.length = n at *
    clear h64 hc h ht HI
    go_enter Try.func6, Try.ntmps6
    go_wp2_with (first
      | (go_at_call 22; (with_reducible refine (H2.out _).mono ?_); rintro e w1 ⟨rfl, hb⟩; have L1 := Lib.hid (HL0.out.below hb); have A1 := Lib.hid (HA0.out.below hb); have B1 := Lib.hid (bTr (bAl (bRef w) _) hb); clear hb)
      | (go_at_call 10; (with_reducible refine (H1.out _).mono ?_); rintro e w2 ⟨rfl, hb⟩; have L2 := Lib.hid (L1.out.below hb); have A2 := Lib.hid (A1.out.below hb); obtain ⟨l0, l1, l2⟩ := L2.out.cells; have B2 := Lib.hid (bTr B1.out hb); clear hb)
      | (go_at_call 23; (with_reducible refine (HT.out _ A2.out).mono ?_); rintro e w3 ⟨rfl, hb⟩; have L3 := Lib.hid (L2.out.below hb); have A3 := Lib.hid (A2.out.below hb); obtain ⟨j0, j1, j2⟩ := L3.out.cells; have B3 := Lib.hid (bTr B2.out hb); clear hb)
      | (go_at_call 13; (with_reducible refine (HC.out _ A3.out).mono ?_); rintro e w4 ⟨rfl, hb⟩; have B4 := Lib.hid (bTr B3.out hb); clear hb))
    go_ret
    exact ⟨rfl, B4.out⟩
set_option maxRecDepth 20000 in
set_option maxHeartbeats 4000000 in
theorem turns_yes (b c : Int) (sl : Value) (ts : List (Int × Int)) (x : Int) (w : World) (h : TArg w sl ts) (h64 : ¬ 64 < ts.length) (ht : Tells b c ts x) :
    Calls Try.prog 6 #[LV b c sl, .int .i64 x] w fun e w' => e = .returned (.bool true) ∧ Below w.heap.size w w' := by
  have H1 := Lib.hid state_head
  have H2 := Lib.hid turns_head
  have HL0 := Lib.hid (LB.new w b c sl)
  have HA0 := Lib.hid (h.below (bAl (bRef w) (BO b c sl)))
  have HC := Lib.hid (check_any b c sl ts)
  rw [ht.2] at HC
  have HI := Lib.hid (inside_any x)
  rw [decide_eq_true ht.1] at HI
  have HT := Lib.hid (turn_any b c sl ts x)
  obtain ⟨m, hm, m1, m2, m3⟩ := turnV_yes ht
  rw [hm] at HT
  have d1 : decide (64 < (ts.length : Int)) = false := decide_eq_false (by omega)
  have hg := chk_good ht.2
  have e1 : decide (x ≤ m) = true := decide_eq_true m1
  have hx1 := ht.1.1
  have hx2 := ht.1.2
  have hc1 := hg.c1
  have hc0 := hg.c0
  have hb0 := hg.b0
  have hb1 := hg.b1
  have w1 : wrap64 (m - x) = m - x := by unfold wrap64; omega
  have e2 : decide (m - x < c) = true := decide_eq_true m2
  have w2 : wrap64 (m - b) = m - b := by unfold wrap64; omega
  have e3 : (m - b).tmod c = 0 := Int.tmod_eq_zero_of_dvd (Int.dvd_of_emod_eq_zero m3)
  have hz : ¬ c = 0 := by omega
  have q1 : IntKind.i64.wrap (m - x) = m - x := by rw [IntKind.wrap_i64]; omega
  have q2 : IntKind.i64.wrap (m - b) = m - b := by rw [IntKind.wrap_i64]; omega
  have q3 : decide (IntKind.i64.wrap (m - x) < c) = true := by rw [q1]; exact e2
  have HI2 := Lib.hid (inside_any m)
  have HS1 := Lib.hid (state_any b c sl ts m)
  have HS2 := Lib.hid (state_any b c sl ts b)
  have htb : Tells b c ts b := ⟨⟨by omega, by omega⟩, ht.2⟩
  obtain ⟨p, cap, rfl⟩ := h.slice
  by_cases hi : inT m
  · rw [decide_eq_true hi] at HI2
    rw [state_eq (show Tells b c ts m from ⟨hi, ht.2⟩) htb (by rw [m3, gone_base])] at HS1
    generalize stateV b c ts b = s at *
    generalize ts.length = n at *
    clear h64 h ht hm m1 m2 m3 hg hx1 hx2 hc1 hc0 hb0 hb1 htb hi
    go_enter Try.func6, Try.ntmps6
    go_wp2_with (first
      | (go_at_call 22; (with_reducible refine (H2.out _).mono ?_); rintro e w1 ⟨rfl, hb⟩; have L1 := Lib.hid (HL0.out.below hb); have A1 := Lib.hid (HA0.out.below hb); have B1 := Lib.hid (bTr (bAl (bRef w) _) hb); clear hb)
      | (go_at_call 10; (with_reducible refine (H1.out _).mono ?_); rintro e w2 ⟨rfl, hb⟩; have L2 := Lib.hid (L1.out.below hb); have A2 := Lib.hid (A1.out.below hb); obtain ⟨l0, l1, l2⟩ := L2.out.cells; have B2 := Lib.hid (bTr B1.out hb); clear hb)
      | (go_at_call 23; (with_reducible refine (HT.out _ A2.out).mono ?_); rintro e w3 ⟨rfl, hb⟩; have L3 := Lib.hid (L2.out.below hb); have A3 := Lib.hid (A2.out.below hb); obtain ⟨j0, j1, j2⟩ := L3.out.cells; have B3 := Lib.hid (bTr B2.out hb); clear hb)
      | (go_at_call 13; (with_reducible refine (HC.out _ A3.out).mono ?_); rintro e w4 ⟨rfl, hb⟩; have L4 := Lib.hid (L3.out.below hb); have A4 := Lib.hid (A3.out.below hb); obtain ⟨i0, i1, i2⟩ := L4.out.cells; have B4 := Lib.hid (bTr B3.out hb); clear hb)
      | (go_at_call 15; (with_reducible refine (HI.out.go _).mono ?_); rintro e w5 ⟨rfl, rfl⟩))
    have HST := Lib.hid (LSt.mk L4.out A4.out B4.out)
    clear L1 L2 L3 L4 A1 A2 A3 A4 B1 B2 B3 B4 HL0 HA0 l0 l1 l2 j0 j1 j2
    go_region_held3 (fun W => W.cell? ⟨w.heap.size, 0, none⟩ = some (.int .i64 b) ∧ W.cell? ⟨w.heap.size, 1, none⟩ = some (.int .i64 c) ∧ W.cell? ⟨w.heap.size, 2, none⟩ = some (.slice p n cap) ∧ TArg W (.slice p n cap) ts ∧ Below w.heap.size w W ∧ w.heap.size < W.heap.size)
      (first | exact HST.out | exact LSt.below HST.out (bRef _).drew | ((try go_split_ands); exact LSt.below ⟨by assumption, by assumption, by assumption, by assumption, by assumption, by assumption⟩ hb1))
      (first
        | (go_at_call 15; (with_reducible refine (HI2.out.go _).mono ?_); rintro e w10 ⟨rfl, rfl⟩)
        | (go_at_call 14; go_split_ands; (with_reducible refine (HS1.out _ (by assumption)).mono ?_); rintro e w10 ⟨rfl, hb1⟩)
        | (go_at_call 14; go_split_ands; (with_reducible refine (HS2.out _ (by assumption)).mono ?_); rintro e w10 ⟨rfl, hb1⟩))
    go_split_ands
    go_wp2_with fail
    go_ret
    exact ⟨rfl, by assumption⟩
  · rw [decide_eq_false hi] at HI2
    generalize ts.length = n at *
    clear h64 h ht hm m1 m2 m3 hg hx1 hx2 hc1 hc0 hb0 hb1 htb hi HS1 HS2
    go_enter Try.func6, Try.ntmps6
    go_wp2_with (first
      | (go_at_call 22; (with_reducible refine (H2.out _).mono ?_); rintro e w1 ⟨rfl, hb⟩; have L1 := Lib.hid (HL0.out.below hb); have A1 := Lib.hid (HA0.out.below hb); have B1 := Lib.hid (bTr (bAl (bRef w) _) hb); clear hb)
      | (go_at_call 10; (with_reducible refine (H1.out _).mono ?_); rintro e w2 ⟨rfl, hb⟩; have L2 := Lib.hid (L1.out.below hb); have A2 := Lib.hid (A1.out.below hb); obtain ⟨l0, l1, l2⟩ := L2.out.cells; have B2 := Lib.hid (bTr B1.out hb); clear hb)
      | (go_at_call 23; (with_reducible refine (HT.out _ A2.out).mono ?_); rintro e w3 ⟨rfl, hb⟩; have L3 := Lib.hid (L2.out.below hb); have A3 := Lib.hid (A2.out.below hb); obtain ⟨j0, j1, j2⟩ := L3.out.cells; have B3 := Lib.hid (bTr B2.out hb); clear hb)
      | (go_at_call 13; (with_reducible refine (HC.out _ A3.out).mono ?_); rintro e w4 ⟨rfl, hb⟩; have L4 := Lib.hid (L3.out.below hb); have A4 := Lib.hid (A3.out.below hb); obtain ⟨i0, i1, i2⟩ := L4.out.cells; have B4 := Lib.hid (bTr B3.out hb); clear hb)
      | (go_at_call 15; (with_reducible refine (HI.out.go _).mono ?_); rintro e w5 ⟨rfl, rfl⟩))
    have HST := Lib.hid (LSt.mk L4.out A4.out B4.out)
    clear L1 L2 L3 L4 A1 A2 A3 A4 B1 B2 B3 B4 HL0 HA0 l0 l1 l2 j0 j1 j2
    have HS0 := HST.out.below (bRef _).drew
    refine wp_region_held_drew (S := LSt w b c (.slice p n cap) ts) (by kernel_rfl) HS0 (fun _ => ?_)
    refine hTake (i := 0) (k := 37) (v := .bool true) rfl rfl (by kernel_rfl) (by kernel_rfl) (by kernel_rfl) (fun _ _ _ h => h) (yieldsIf_val (by rfl) (by intro W; go_simp)) HS0 ?_
    simp only [List.setIfInBounds_toArray, List.set_cons_zero, List.set_cons_succ]
    refine hTake (i := 1) (k := 38) (v := .bool true) rfl rfl (by kernel_rfl) (by kernel_rfl) (by kernel_rfl) (fun _ _ _ h => h) (yieldsIf_val (by rfl) (by intro W; go_simp)) HS0 ?_
    simp only [List.setIfInBounds_toArray, List.set_cons_zero, List.set_cons_succ]
    refine hTake (i := 2) (k := 39) (v := .int .i64 m) rfl rfl (by kernel_rfl) (by kernel_rfl) (by kernel_rfl) (fun _ _ _ h => h) (yieldsIf_val (by rfl) (by intro W; go_simp)) HS0 ?_
    simp only [List.setIfInBounds_toArray, List.set_cons_zero, List.set_cons_succ]
    refine hTake (i := 3) (k := 40) (v := .int .i64 x) rfl rfl (by kernel_rfl) (by kernel_rfl) (by kernel_rfl) (fun _ _ _ h => h) (yieldsIf_val (by rfl) (by intro W; go_simp)) HS0 ?_
    simp only [List.setIfInBounds_toArray, List.set_cons_zero, List.set_cons_succ]
    refine hTake (i := 4) (k := 41) (v := .bool true) rfl rfl (by kernel_rfl) (by kernel_rfl) (by kernel_rfl) (fun _ _ _ h => h) (yieldsIf_val (by rfl) (by intro W; go_simp)) HS0 ?_
    simp only [List.setIfInBounds_toArray, List.set_cons_zero, List.set_cons_succ]
    refine hTake (i := 5) (k := 42) (v := .bool true) rfl rfl (by kernel_rfl) (by kernel_rfl) (by kernel_rfl) (fun _ _ _ h => h) (yieldsIf_val (by rfl) (by intro W; go_simp)) HS0 ?_
    simp only [List.setIfInBounds_toArray, List.set_cons_zero, List.set_cons_succ]
    refine hTake (i := 6) (k := 43) (v := .bool true) rfl rfl (by kernel_rfl) (by kernel_rfl) (by kernel_rfl) (fun _ _ _ h => h) (yieldsIf_val (by rfl) (by intro W; go_simp)) HS0 ?_
    simp only [List.setIfInBounds_toArray, List.set_cons_zero, List.set_cons_succ]
    refine hTake (i := 7) (k := 44) (v := .int .i64 m) rfl rfl (by kernel_rfl) (by kernel_rfl) (by kernel_rfl) (fun _ _ _ h => h) (yieldsIf_val (by rfl) (by intro W; go_simp)) HS0 ?_
    simp only [List.setIfInBounds_toArray, List.set_cons_zero, List.set_cons_succ]
    refine hTake (i := 8) (k := 45) (v := .int .i64 x) rfl rfl (by kernel_rfl) (by kernel_rfl) (by kernel_rfl) (fun _ _ _ h => h) (yieldsIf_val (by rfl) (by intro W; go_simp)) HS0 ?_
    simp only [List.setIfInBounds_toArray, List.set_cons_zero, List.set_cons_succ]
    refine hTake (i := 9) (k := 46) (v := .int .i64 (m - x)) rfl rfl (by kernel_rfl) (by kernel_rfl) (by kernel_rfl) (fun _ _ _ h => h) (yieldsIf_val (by rfl) (by intro W; go_simp)) HS0 ?_
    simp only [List.setIfInBounds_toArray, List.set_cons_zero, List.set_cons_succ]
    refine hTake (i := 10) (k := 47) (v := .pointer (some ⟨w.heap.size, 1, none⟩)) rfl rfl (by kernel_rfl) (by kernel_rfl) (by kernel_rfl) (fun _ _ _ h => h) (yieldsIf_val (by rfl) (by intro W; go_simp)) HS0 ?_
    simp only [List.setIfInBounds_toArray, List.set_cons_zero, List.set_cons_succ]
    refine hTake (i := 11) (k := 48) (v := .int .i64 c) rfl rfl (by kernel_rfl) (by kernel_rfl) (by kernel_rfl) (fun _ _ _ h => h) (.inl ⟨by rfl, fun W hW => by obtain ⟨s0, s1, s2, -⟩ := hW; go_simp⟩) HS0 ?_
    simp only [List.setIfInBounds_toArray, List.set_cons_zero, List.set_cons_succ]
    refine hTake (i := 12) (k := 49) (v := .bool true) rfl rfl (by kernel_rfl) (by kernel_rfl) (by kernel_rfl) (fun _ _ _ h => h) (yieldsIf_val (by rfl) (by intro W; go_simp)) HS0 ?_
    simp only [List.setIfInBounds_toArray, List.set_cons_zero, List.set_cons_succ]
    refine hTake (i := 13) (k := 50) (v := .bool true) rfl rfl (by kernel_rfl) (by kernel_rfl) (by kernel_rfl) (fun _ _ _ h => h) (yieldsIf_val (by rfl) (by intro W; go_simp)) HS0 ?_
    simp only [List.setIfInBounds_toArray, List.set_cons_zero, List.set_cons_succ]
    refine hTake (i := 14) (k := 51) (v := .bool true) rfl rfl (by kernel_rfl) (by kernel_rfl) (by kernel_rfl) (fun _ _ _ h => h) (yieldsIf_val (by rfl) (by intro W; go_simp)) HS0 ?_
    simp only [List.setIfInBounds_toArray, List.set_cons_zero, List.set_cons_succ]
    refine hTake (i := 15) (k := 52) (v := .int .i64 m) rfl rfl (by kernel_rfl) (by kernel_rfl) (by kernel_rfl) (fun _ _ _ h => h) (yieldsIf_val (by rfl) (by intro W; go_simp)) HS0 ?_
    simp only [List.setIfInBounds_toArray, List.set_cons_zero, List.set_cons_succ]
    refine hTake (i := 16) (k := 53) (v := .pointer (some ⟨w.heap.size, 0, none⟩)) rfl rfl (by kernel_rfl) (by kernel_rfl) (by kernel_rfl) (fun _ _ _ h => h) (yieldsIf_val (by rfl) (by intro W; go_simp)) HS0 ?_
    simp only [List.setIfInBounds_toArray, List.set_cons_zero, List.set_cons_succ]
    refine hTake (i := 17) (k := 54) (v := .int .i64 b) rfl rfl (by kernel_rfl) (by kernel_rfl) (by kernel_rfl) (fun _ _ _ h => h) (.inl ⟨by rfl, fun W hW => by obtain ⟨s0, s1, s2, -⟩ := hW; go_simp⟩) HS0 ?_
    simp only [List.setIfInBounds_toArray, List.set_cons_zero, List.set_cons_succ]
    refine hTake (i := 18) (k := 55) (v := .int .i64 (m - b)) rfl rfl (by kernel_rfl) (by kernel_rfl) (by kernel_rfl) (fun _ _ _ h => h) (yieldsIf_val (by rfl) (by intro W; go_simp)) HS0 ?_
    simp only [List.setIfInBounds_toArray, List.set_cons_zero, List.set_cons_succ]
    refine hTake (i := 19) (k := 56) (v := .pointer (some ⟨w.heap.size, 1, none⟩)) rfl rfl (by kernel_rfl) (by kernel_rfl) (by kernel_rfl) (fun _ _ _ h => h) (yieldsIf_val (by rfl) (by intro W; go_simp)) HS0 ?_
    simp only [List.setIfInBounds_toArray, List.set_cons_zero, List.set_cons_succ]
    refine hTake (i := 20) (k := 57) (v := .int .i64 c) rfl rfl (by kernel_rfl) (by kernel_rfl) (by kernel_rfl) (fun _ _ _ h => h) (.inl ⟨by rfl, fun W hW => by obtain ⟨s0, s1, s2, -⟩ := hW; go_simp⟩) HS0 ?_
    simp only [List.setIfInBounds_toArray, List.set_cons_zero, List.set_cons_succ]
    refine hTake (i := 21) (k := 58) (v := .int .i64 0) rfl rfl (by kernel_rfl) (by kernel_rfl) (by kernel_rfl) (fun _ _ _ h => h) (yieldsIf_val (by rfl) (by intro W; go_simp)) HS0 ?_
    simp only [List.setIfInBounds_toArray, List.set_cons_zero, List.set_cons_succ]
    refine hTake (i := 22) (k := 59) (v := .bool true) rfl rfl (by kernel_rfl) (by kernel_rfl) (by kernel_rfl) (fun _ _ _ h => h) (yieldsIf_val (by rfl) (by intro W; go_simp)) HS0 ?_
    simp only [List.setIfInBounds_toArray, List.set_cons_zero, List.set_cons_succ]
    refine hTake (i := 23) (k := 60) (v := .bool true) rfl rfl (by kernel_rfl) (by kernel_rfl) (by kernel_rfl) (fun _ _ _ h => h) (yieldsIf_val (by rfl) (by intro W; go_simp)) HS0 ?_
    simp only [List.setIfInBounds_toArray, List.set_cons_zero, List.set_cons_succ]
    refine hTake (i := 24) (k := 61) (v := .bool true) rfl rfl (by kernel_rfl) (by kernel_rfl) (by kernel_rfl) (fun _ _ _ h => h) (yieldsIf_val (by rfl) (by intro W; go_simp)) HS0 ?_
    simp only [List.setIfInBounds_toArray, List.set_cons_zero, List.set_cons_succ]
    refine hTake (i := 25) (k := 62) (v := .int .i64 m) rfl rfl (by kernel_rfl) (by kernel_rfl) (by kernel_rfl) (fun _ _ _ h => h) (yieldsIf_val (by rfl) (by intro W; go_simp)) HS0 ?_
    simp only [List.setIfInBounds_toArray, List.set_cons_zero, List.set_cons_succ]
    refine hCall (i := 26) (k := 63) (by kernel_rfl) rfl rfl (by rfl) 15 #[.int .i64 m] (by intro W; go_simp) (.bool false) (fun W hW => (HI2.out.go W).mono fun e W' hh => ⟨hh.1, hh.2 ▸ hW⟩) HS0 (fun W1 H1r => ?_)
    simp only [List.setIfInBounds_toArray, List.set_cons_zero, List.set_cons_succ]
    refine hTake (i := 27) (k := 64) (v := .bool true) rfl rfl (by kernel_rfl) (by kernel_rfl) (by kernel_rfl) (fun _ _ _ h => h) (yieldsIf_val (by rfl) (by intro W; go_simp)) H1r ?_
    simp only [List.setIfInBounds_toArray, List.set_cons_zero, List.set_cons_succ]
    refine hTake (i := 28) (k := 65) (v := .bool true) rfl rfl (by kernel_rfl) (by kernel_rfl) (by kernel_rfl) (fun _ _ _ h => h) (yieldsIf_val (by rfl) (by intro W; go_simp)) H1r ?_
    simp only [List.setIfInBounds_toArray, List.set_cons_zero, List.set_cons_succ]
    refine hTake (i := 29) (k := 66) (v := undef) rfl rfl (by kernel_rfl) (by kernel_rfl) (by kernel_rfl) (fun _ _ _ h => h) (yieldsIf_skip (by rfl)) H1r ?_
    simp only [List.setIfInBounds_toArray, List.set_cons_zero, List.set_cons_succ]
    refine hTake (i := 30) (k := 67) (v := undef) rfl rfl (by kernel_rfl) (by kernel_rfl) (by kernel_rfl) (fun _ _ _ h => h) (yieldsIf_skip (by rfl)) H1r ?_
    simp only [List.setIfInBounds_toArray, List.set_cons_zero, List.set_cons_succ]
    refine hTake (i := 31) (k := 68) (v := undef) rfl rfl (by kernel_rfl) (by kernel_rfl) (by kernel_rfl) (fun _ _ _ h => h) (yieldsIf_skip (by rfl)) H1r ?_
    simp only [List.setIfInBounds_toArray, List.set_cons_zero, List.set_cons_succ]
    refine hTake (i := 32) (k := 69) (v := undef) rfl rfl (by kernel_rfl) (by kernel_rfl) (by kernel_rfl) (fun _ _ _ h => h) (yieldsIf_skip (by rfl)) H1r ?_
    simp only [List.setIfInBounds_toArray, List.set_cons_zero, List.set_cons_succ]
    refine hTake (i := 33) (k := 70) (v := undef) rfl rfl (by kernel_rfl) (by kernel_rfl) (by kernel_rfl) (fun _ _ _ h => h) (yieldsIf_skip (by rfl)) H1r ?_
    simp only [List.setIfInBounds_toArray, List.set_cons_zero, List.set_cons_succ]
    refine hTake (i := 34) (k := 71) (v := undef) rfl rfl (by kernel_rfl) (by kernel_rfl) (by kernel_rfl) (fun _ _ _ h => h) (yieldsIf_skip (by rfl)) H1r ?_
    simp only [List.setIfInBounds_toArray, List.set_cons_zero, List.set_cons_succ]
    refine hTake (i := 35) (k := 72) (v := undef) rfl rfl (by kernel_rfl) (by kernel_rfl) (by kernel_rfl) (fun _ _ _ h => h) (yieldsIf_skip (by rfl)) H1r ?_
    simp only [List.setIfInBounds_toArray, List.set_cons_zero, List.set_cons_succ]
    refine hTake (i := 36) (k := 73) (v := undef) rfl rfl (by kernel_rfl) (by kernel_rfl) (by kernel_rfl) (fun _ _ _ h => h) (yieldsIf_skip (by rfl)) H1r ?_
    simp only [List.setIfInBounds_toArray, List.set_cons_zero, List.set_cons_succ]
    refine hTake (i := 37) (k := 74) (v := .bool true) rfl rfl (by kernel_rfl) (by kernel_rfl) (by kernel_rfl) (fun _ _ _ h => h) (yieldsIf_val (by rfl) (by intro W; go_simp)) H1r ?_
    simp only [List.setIfInBounds_toArray, List.set_cons_zero, List.set_cons_succ]
    refine hTake (i := 38) (k := 75) (v := .bool true) rfl rfl (by kernel_rfl) (by kernel_rfl) (by kernel_rfl) (fun _ _ _ h => h) (yieldsIf_val (by rfl) (by intro W; go_simp)) H1r ?_
    simp only [List.setIfInBounds_toArray, List.set_cons_zero, List.set_cons_succ]
    refine hTake (i := 39) (k := 4) (v := .bool true) rfl rfl (by kernel_rfl) (by kernel_rfl) (by kernel_rfl) (fun _ _ _ h => h) (yieldsIf_val (by rfl) (by intro W; go_simp)) H1r ?_
    simp only [List.setIfInBounds_toArray, List.set_cons_zero, List.set_cons_succ]
    refine wpAnyH_done (by kernel_rfl) ?_ _
    go_wp2_with fail
    go_ret
    exact ⟨rfl, H1r.2.2.2.2.1⟩

theorem gatesTurns_holds : Rows.GatesTurnsSaid := gatesTurns_of (fun b c sl ts x w _ _ h _ => by
  by_cases h64 : 64 < ts.length
  · obtain ⟨p, cap, rfl⟩ := h.slice
    exact turns_long b c p ts.length cap x w h64
  · by_cases ht : Tells b c ts x
    · exact turns_yes b c sl ts x w h h64 ht
    · exact turns_no b c sl ts x w h h64 ht)

end Go.Proofs.Ytpdfgdjomlogbaa
