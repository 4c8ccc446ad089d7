/- For every list of gates and ints GatesAgain answers true: a cycle later all is the same; a gate stays as it is told, and then is otherwise. No condition. -/
import Derived.Test.YtpdfgdjomlogbaaFGatesAgain
import Derived.Test.YtpdfgdjomlogbaaGtAgain
namespace Go.Proofs.Ytpdfgdjomlogbaa
open Go.RowKit Go.Joins

set_option maxHeartbeats 1000000 in
theorem again_out (b c : Int) (sl : Value) (ts : List (Int × Int)) (x1 x2 : Int) (w : World) (h : TArg w sl ts) (hc : 64 < ts.length ∨ chkV b c ts ≠ 0) :
    Calls Try.prog 7 #[LV b c sl, .int .i64 x1, .int .i64 x2] w fun e w' => e = .returned (.bool true) ∧ Below w.heap.size w w' := by
  have H1 := Lib.hid state_head
  have H2 := Lib.hid left_head
  have H3 := Lib.hid next_head
  have ST0 := Lib.hid (LSt.new (b := b) (c := c) h)
  have HC := Lib.hid (check_any b c sl ts)
  obtain ⟨p, cap, rfl⟩ := h.slice
  by_cases h64 : 64 < ts.length
  · have d1 : decide (64 < (ts.length : Int)) = true := decide_eq_true (by omega)
    generalize ts.length = n at *
    clear h64 hc h
    go_enter Try.func7, Try.ntmps7
    go_wp2_with (first
      | (go_at_call 10; (with_reducible refine (H1.out _).mono ?_); rintro e v1 ⟨rfl, hb⟩; have ST1 := Lib.hid (ST0.out.below hb); obtain ⟨i1, j1, k1, -⟩ := ST1.out; clear hb)
      | (go_at_call 17; (with_reducible refine (H2.out _).mono ?_); rintro e v2 ⟨rfl, hb⟩; have ST2 := Lib.hid (ST1.out.below hb); obtain ⟨i2, j2, k2, -⟩ := ST2.out; clear hb)
      | (go_at_call 20; (with_reducible refine (H3.out _).mono ?_); rintro e v3 ⟨rfl, hb⟩; have ST3 := Lib.hid (ST2.out.below hb); obtain ⟨i3, j3, k3, -⟩ := ST3.out; clear hb))
    go_ret
    exact ⟨rfl, ST3.out.bel⟩
  · have d1 : decide (64 < (ts.length : Int)) = false := decide_eq_false (by omega)
    have d2 : (chkV b c ts != 0) = true := by simpa using hc.resolve_left h64
    generalize chkV b c ts = z at *
    generalize ts.length = n at *
    clear h64 hc h
    go_enter Try.func7, Try.ntmps7
    go_wp2_with (first
      | (go_at_call 10; (with_reducible refine (H1.out _).mono ?_); rintro e v1 ⟨rfl, hb⟩; have ST1 := Lib.hid (ST0.out.below hb); obtain ⟨i1, j1, k1, -⟩ := ST1.out; clear hb)
      | (go_at_call 17; (with_reducible refine (H2.out _).mono ?_); rintro e v2 ⟨rfl, hb⟩; have ST2 := Lib.hid (ST1.out.below hb); obtain ⟨i2, j2, k2, -⟩ := ST2.out; clear hb)
      | (go_at_call 20; (with_reducible refine (H3.out _).mono ?_); rintro e v3 ⟨rfl, hb⟩; have ST3 := Lib.hid (ST2.out.below hb); obtain ⟨i3, j3, k3, -⟩ := ST3.out; clear hb)
      | (go_at_call 13; (with_reducible refine (HC.out _ ST3.out.targ).mono ?_); rintro e v4 ⟨rfl, hb⟩; have ST4 := Lib.hid (ST3.out.below hb); obtain ⟨i4, j4, k4, -⟩ := ST4.out; clear hb))
    go_ret
    exact ⟨rfl, ST4.out.bel⟩

set_option maxRecDepth 20000 in
set_option maxHeartbeats 4000000 in
theorem again_always (b c : Int) (p : Option Addr) (n cap : Nat) (ts : List (Int × Int)) (x1 x2 x : Int) (G : Nat) (w : World) (h : TArg w (.slice p n cap) ts) (h64 : ¬ 64 < n) (hc : chkV b c ts = 0) (hc0 : 1 ≤ c) (hc1 : c ≤ 1073741824) (l1 : bits .and .i64 x1 4294967295 = x) (hx0 : 0 ≤ x) (hx1 : x < 4294967296) (l2 : bits .and .i64 x2 7 = (G : Int)) (hG : G < 8)
    (s : Int) (hs1 : stateV b c ts x = s) (hs2 : stateV b c ts (x + c) = s) (ho : bits .and .i64 (s / (2 : Int) ^ G) 1 = 1) (hl : leftV b c ts x G = 2147483648) (hn : nextV b c ts x G = (0, true)) :
    Calls Try.prog 7 #[LV b c (.slice p n cap), .int .i64 x1, .int .i64 x2] w fun e w' => e = .returned (.bool true) ∧ Below w.heap.size w w' := by
  have H1 := Lib.hid state_head
  have H2 := Lib.hid left_head
  have H3 := Lib.hid next_head
  have ST0 := Lib.hid (LSt.new (b := b) (c := c) h)
  have HC := Lib.hid (check_any b c (.slice p n cap) ts)
  rw [hc] at HC
  have HS1 := Lib.hid (state_any b c (.slice p n cap) ts x)
  have HS2 := Lib.hid (state_any b c (.slice p n cap) ts (x + c))
  rw [hs1] at HS1
  rw [hs2] at HS2
  have hw : IntKind.i64.wrap (x + c) = x + c := by rw [IntKind.wrap_i64]; omega
  have HS2w := HS2
  rw [← hw] at HS2w
  clear hw
  have HF := Lib.hid (fun W => left_any b c (.slice p n cap) ts x W G)
  have HN := Lib.hid (fun W => next_any b c (.slice p n cap) ts x W G)
  have d1 : decide (64 < (n : Int)) = false := decide_eq_false (by omega)
  have y1 : wrap64 (x + c) = x + c := by unfold wrap64; omega
  have y2 : wrap64 (2 * c) = 2 * c := by unfold wrap64; omega
  rw [hl] at HF
  rw [hn] at HN
  have y3 : decide (2147483648 < 2 * c) = false := decide_eq_false (by omega)
  have y4 : decide (2 * c ≤ 2147483648) = true := decide_eq_true (by omega)
  clear hl hn
  clear h64 hc hs1 hs2 h hc0 hc1 hx0 hx1
  go_enter Try.func7, Try.ntmps7
  go_wp2_with (first
      | (go_at_call 10; (with_reducible refine (H1.out _).mono ?_); rintro e v1 ⟨rfl, hb⟩; have ST1 := Lib.hid (ST0.out.below hb); obtain ⟨i1, j1, k1, -⟩ := ST1.out; clear hb)
      | (go_at_call 17; (with_reducible refine (H2.out _).mono ?_); rintro e v2 ⟨rfl, hb⟩; have ST2 := Lib.hid (ST1.out.below hb); obtain ⟨i2, j2, k2, -⟩ := ST2.out; clear hb)
      | (go_at_call 20; (with_reducible refine (H3.out _).mono ?_); rintro e v3 ⟨rfl, hb⟩; have ST3 := Lib.hid (ST2.out.below hb); obtain ⟨i3, j3, k3, -⟩ := ST3.out; clear hb)
      | (go_at_call 13; (with_reducible refine (HC.out _ ST3.out.targ).mono ?_); rintro e v4 ⟨rfl, hb⟩; have ST4 := Lib.hid (ST3.out.below hb); obtain ⟨i4, j4, k4, -⟩ := ST4.out; clear hb))
  have HST := ST4
  clear i1 j1 k1 i2 j2 k2 i3 j3 k3 i4 j4 k4
  go_region_held3 (fun W => W.cell? ⟨w.heap.size, 0, none⟩ = some (.int .i64 b) ∧ W.cell? ⟨w.heap.size, 1, none⟩ = some (.int .i64 c) ∧ W.cell? ⟨w.heap.size, 2, none⟩ = some (.slice p n cap) ∧ TArg W (.slice p n cap) ts ∧ Below w.heap.size w W ∧ w.heap.size < W.heap.size)
    (first | exact HST.out | exact LSt.below HST.out (bRef _).drew | ((try go_split_ands); exact LSt.below ⟨by assumption, by assumption, by assumption, by assumption, by assumption, by assumption⟩ hb1))
    (first
      | (go_at_call 14; go_split_ands; (with_reducible refine (HS1.out _ (by assumption)).mono ?_); rintro e v5 ⟨rfl, hb1⟩)
      | (go_at_call 14; go_split_ands; (with_reducible refine (HS2w.out _ (by assumption)).mono ?_); rintro e v5 ⟨rfl, hb1⟩))
  go_split_ands
  have ST5 : Hid (LSt w b c (.slice p n cap) ts _) := Lib.hid ⟨by assumption, by assumption, by assumption, by assumption, by assumption, by assumption⟩
  go_wp2_with (first
      | (go_at_call 18; (with_reducible refine (HF.out _ ST5.out.targ).mono ?_); rintro e v6 ⟨rfl, hb⟩; have ST6 := Lib.hid (ST5.out.below hb); obtain ⟨i6, j6, k6, -⟩ := ST6.out; clear hb)
      | (go_at_call 14; (with_reducible refine (HS1.out _ ST6.out.targ).mono ?_); rintro e v7 ⟨rfl, hb⟩; have ST7 := Lib.hid (ST6.out.below hb); obtain ⟨i7, j7, k7, -⟩ := ST7.out; clear hb)
      | (go_at_call 21; (with_reducible refine (HN.out _ ST7.out.targ).mono ?_); rintro e v8 ⟨rfl, hb⟩; have ST8 := Lib.hid (ST7.out.below hb); obtain ⟨i8, j8, k8, -⟩ := ST8.out; clear hb))
  go_ret
  exact ⟨rfl, ST8.out.bel⟩

set_option maxRecDepth 20000 in
set_option maxHeartbeats 4000000 in
theorem again_open (b c : Int) (p : Option Addr) (n cap : Nat) (ts : List (Int × Int)) (x1 x2 x : Int) (G : Nat) (w : World) (h : TArg w (.slice p n cap) ts) (h64 : ¬ 64 < n) (hc : chkV b c ts = 0) (hc0 : 1 ≤ c) (hc1 : c ≤ 1073741824) (l1 : bits .and .i64 x1 4294967295 = x) (hx0 : 0 ≤ x) (hx1 : x < 4294967296) (l2 : bits .and .i64 x2 7 = (G : Int)) (hG : G < 8)
    (s : Int) (hs1 : stateV b c ts x = s) (hs2 : stateV b c ts (x + c) = s) (v : Int) (hv0 : 0 < v) (hv1 : v < 2 * c) (ho : bits .and .i64 (s / (2 : Int) ^ G) 1 = 1) (hl : leftV b c ts x G = v) (hn : nextV b c ts x G = (0, true)) (q r : Int) (hq : stateV b c ts (x + v - 1) = q) (hr : stateV b c ts (x + v) = r) (hq1 : bits .and .i64 (q / (2 : Int) ^ G) 1 = 1) (hr1 : bits .and .i64 (r / (2 : Int) ^ G) 1 = 0) :
    Calls Try.prog 7 #[LV b c (.slice p n cap), .int .i64 x1, .int .i64 x2] w fun e w' => e = .returned (.bool true) ∧ Below w.heap.size w w' := by
  have H1 := Lib.hid state_head
  have H2 := Lib.hid left_head
  have H3 := Lib.hid next_head
  have ST0 := Lib.hid (LSt.new (b := b) (c := c) h)
  have HC := Lib.hid (check_any b c (.slice p n cap) ts)
  rw [hc] at HC
  have HS1 := Lib.hid (state_any b c (.slice p n cap) ts x)
  have HS2 := Lib.hid (state_any b c (.slice p n cap) ts (x + c))
  rw [hs1] at HS1
  rw [hs2] at HS2
  have hw : IntKind.i64.wrap (x + c) = x + c := by rw [IntKind.wrap_i64]; omega
  have HS2w := HS2
  rw [← hw] at HS2w
  clear hw
  have HF := Lib.hid (fun W => left_any b c (.slice p n cap) ts x W G)
  have HN := Lib.hid (fun W => next_any b c (.slice p n cap) ts x W G)
  have d1 : decide (64 < (n : Int)) = false := decide_eq_false (by omega)
  have y1 : wrap64 (x + c) = x + c := by unfold wrap64; omega
  have y2 : wrap64 (2 * c) = 2 * c := by unfold wrap64; omega
  rw [hl] at HF
  rw [hn] at HN
  have HQ := Lib.hid (state_any b c (.slice p n cap) ts (x + v - 1))
  have HR := Lib.hid (state_any b c (.slice p n cap) ts (x + v))
  rw [hq] at HQ
  rw [hr] at HR
  have y3 : decide (v < 2 * c) = true := decide_eq_true hv1
  have y4 : decide (2 * c ≤ v) = false := decide_eq_false (by omega)
  have y5 : decide (0 < v) = true := decide_eq_true hv0
  have y6 : decide (v < 0) = false := decide_eq_false (by omega)
  have y7 : wrap64 (x + v) = x + v := by unfold wrap64; omega
  have y8 : wrap64 (x + v - 1) = x + v - 1 := by unfold wrap64; omega
  clear hl hn hq hr hv0 hv1
  clear h64 hc hs1 hs2 h hc0 hc1 hx0 hx1
  go_enter Try.func7, Try.ntmps7
  go_wp2_with (first
      | (go_at_call 10; (with_reducible refine (H1.out _).mono ?_); rintro e v1 ⟨rfl, hb⟩; have ST1 := Lib.hid (ST0.out.below hb); obtain ⟨i1, j1, k1, -⟩ := ST1.out; clear hb)
      | (go_at_call 17; (with_reducible refine (H2.out _).mono ?_); rintro e v2 ⟨rfl, hb⟩; have ST2 := Lib.hid (ST1.out.below hb); obtain ⟨i2, j2, k2, -⟩ := ST2.out; clear hb)
      | (go_at_call 20; (with_reducible refine (H3.out _).mono ?_); rintro e v3 ⟨rfl, hb⟩; have ST3 := Lib.hid (ST2.out.below hb); obtain ⟨i3, j3, k3, -⟩ := ST3.out; clear hb)
      | (go_at_call 13; (with_reducible refine (HC.out _ ST3.out.targ).mono ?_); rintro e v4 ⟨rfl, hb⟩; have ST4 := Lib.hid (ST3.out.below hb); obtain ⟨i4, j4, k4, -⟩ := ST4.out; clear hb))
  have HST := ST4
  clear i1 j1 k1 i2 j2 k2 i3 j3 k3 i4 j4 k4
  go_region_held3 (fun W => W.cell? ⟨w.heap.size, 0, none⟩ = some (.int .i64 b) ∧ W.cell? ⟨w.heap.size, 1, none⟩ = some (.int .i64 c) ∧ W.cell? ⟨w.heap.size, 2, none⟩ = some (.slice p n cap) ∧ TArg W (.slice p n cap) ts ∧ Below w.heap.size w W ∧ w.heap.size < W.heap.size)
    (first | exact HST.out | exact LSt.below HST.out (bRef _).drew | ((try go_split_ands); exact LSt.below ⟨by assumption, by assumption, by assumption, by assumption, by assumption, by assumption⟩ hb1))
    (first
      | (go_at_call 14; go_split_ands; (with_reducible refine (HS1.out _ (by assumption)).mono ?_); rintro e v5 ⟨rfl, hb1⟩)
      | (go_at_call 14; go_split_ands; (with_reducible refine (HS2w.out _ (by assumption)).mono ?_); rintro e v5 ⟨rfl, hb1⟩))
  go_split_ands
  have ST5 : Hid (LSt w b c (.slice p n cap) ts _) := Lib.hid ⟨by assumption, by assumption, by assumption, by assumption, by assumption, by assumption⟩
  go_wp2_with (first
      | (go_at_call 18; (with_reducible refine (HF.out _ ST5.out.targ).mono ?_); rintro e v6 ⟨rfl, hb⟩; have ST6 := Lib.hid (ST5.out.below hb); obtain ⟨i6, j6, k6, -⟩ := ST6.out; clear hb)
      | (go_at_call 14; (with_reducible refine (HS1.out _ ST6.out.targ).mono ?_); rintro e v7 ⟨rfl, hb⟩; have ST7 := Lib.hid (ST6.out.below hb); obtain ⟨i7, j7, k7, -⟩ := ST7.out; clear hb)
      | (go_at_call 14; (with_reducible refine (HQ.out _ ST7.out.targ).mono ?_); rintro e v8 ⟨rfl, hb⟩; have ST8 := Lib.hid (ST7.out.below hb); obtain ⟨i8, j8, k8, -⟩ := ST8.out; clear hb)
      | (go_at_call 14; (with_reducible refine (HR.out _ ST8.out.targ).mono ?_); rintro e v9 ⟨rfl, hb⟩; have ST9 := Lib.hid (ST8.out.below hb); obtain ⟨i9, j9, k9, -⟩ := ST9.out; clear hb)
      | (go_at_call 21; (with_reducible refine (HN.out _ ST9.out.targ).mono ?_); rintro e v10 ⟨rfl, hb⟩; have ST10 := Lib.hid (ST9.out.below hb); obtain ⟨i10, j10, k10, -⟩ := ST10.out; clear hb))
  go_ret
  exact ⟨rfl, ST10.out.bel⟩

set_option maxRecDepth 20000 in
set_option maxHeartbeats 4000000 in
theorem again_never (b c : Int) (p : Option Addr) (n cap : Nat) (ts : List (Int × Int)) (x1 x2 x : Int) (G : Nat) (w : World) (h : TArg w (.slice p n cap) ts) (h64 : ¬ 64 < n) (hc : chkV b c ts = 0) (hc0 : 1 ≤ c) (hc1 : c ≤ 1073741824) (l1 : bits .and .i64 x1 4294967295 = x) (hx0 : 0 ≤ x) (hx1 : x < 4294967296) (l2 : bits .and .i64 x2 7 = (G : Int)) (hG : G < 8)
    (s : Int) (hs1 : stateV b c ts x = s) (hs2 : stateV b c ts (x + c) = s) (ho : bits .and .i64 (s / (2 : Int) ^ G) 1 = 0) (hl : leftV b c ts x G = 0) (hn : nextV b c ts x G = (0, false)) (hq : leftV b c ts (x + c - 1) G = 0) :
    Calls Try.prog 7 #[LV b c (.slice p n cap), .int .i64 x1, .int .i64 x2] w fun e w' => e = .returned (.bool true) ∧ Below w.heap.size w w' := by
  have H1 := Lib.hid state_head
  have H2 := Lib.hid left_head
  have H3 := Lib.hid next_head
  have ST0 := Lib.hid (LSt.new (b := b) (c := c) h)
  have HC := Lib.hid (check_any b c (.slice p n cap) ts)
  rw [hc] at HC
  have HS1 := Lib.hid (state_any b c (.slice p n cap) ts x)
  have HS2 := Lib.hid (state_any b c (.slice p n cap) ts (x + c))
  rw [hs1] at HS1
  rw [hs2] at HS2
  have hw : IntKind.i64.wrap (x + c) = x + c := by rw [IntKind.wrap_i64]; omega
  have HS2w := HS2
  rw [← hw] at HS2w
  clear hw
  have HF := Lib.hid (fun W => left_any b c (.slice p n cap) ts x W G)
  have HN := Lib.hid (fun W => next_any b c (.slice p n cap) ts x W G)
  have d1 : decide (64 < (n : Int)) = false := decide_eq_false (by omega)
  have y1 : wrap64 (x + c) = x + c := by unfold wrap64; omega
  have y2 : wrap64 (2 * c) = 2 * c := by unfold wrap64; omega
  rw [hl] at HF
  rw [hn] at HN
  have HQ := Lib.hid (fun W => left_any b c (.slice p n cap) ts (x + c - 1) W G)
  rw [hq] at HQ
  have y3 : decide (2 * c ≤ 0) = false := decide_eq_false (by omega)
  have y8 : wrap64 (x + c - 1) = x + c - 1 := by unfold wrap64; omega
  clear hl hn hq
  clear h64 hc hs1 hs2 h hc0 hc1 hx0 hx1
  go_enter Try.func7, Try.ntmps7
  go_wp2_with (first
      | (go_at_call 10; (with_reducible refine (H1.out _).mono ?_); rintro e v1 ⟨rfl, hb⟩; have ST1 := Lib.hid (ST0.out.below hb); obtain ⟨i1, j1, k1, -⟩ := ST1.out; clear hb)
      | (go_at_call 17; (with_reducible refine (H2.out _).mono ?_); rintro e v2 ⟨rfl, hb⟩; have ST2 := Lib.hid (ST1.out.below hb); obtain ⟨i2, j2, k2, -⟩ := ST2.out; clear hb)
      | (go_at_call 20; (with_reducible refine (H3.out _).mono ?_); rintro e v3 ⟨rfl, hb⟩; have ST3 := Lib.hid (ST2.out.below hb); obtain ⟨i3, j3, k3, -⟩ := ST3.out; clear hb)
      | (go_at_call 13; (with_reducible refine (HC.out _ ST3.out.targ).mono ?_); rintro e v4 ⟨rfl, hb⟩; have ST4 := Lib.hid (ST3.out.below hb); obtain ⟨i4, j4, k4, -⟩ := ST4.out; clear hb))
  have HST := ST4
  clear i1 j1 k1 i2 j2 k2 i3 j3 k3 i4 j4 k4
  go_region_held3 (fun W => W.cell? ⟨w.heap.size, 0, none⟩ = some (.int .i64 b) ∧ W.cell? ⟨w.heap.size, 1, none⟩ = some (.int .i64 c) ∧ W.cell? ⟨w.heap.size, 2, none⟩ = some (.slice p n cap) ∧ TArg W (.slice p n cap) ts ∧ Below w.heap.size w W ∧ w.heap.size < W.heap.size)
    (first | exact HST.out | exact LSt.below HST.out (bRef _).drew | ((try go_split_ands); exact LSt.below ⟨by assumption, by assumption, by assumption, by assumption, by assumption, by assumption⟩ hb1))
    (first
      | (go_at_call 14; go_split_ands; (with_reducible refine (HS1.out _ (by assumption)).mono ?_); rintro e v5 ⟨rfl, hb1⟩)
      | (go_at_call 14; go_split_ands; (with_reducible refine (HS2w.out _ (by assumption)).mono ?_); rintro e v5 ⟨rfl, hb1⟩))
  go_split_ands
  have ST5 : Hid (LSt w b c (.slice p n cap) ts _) := Lib.hid ⟨by assumption, by assumption, by assumption, by assumption, by assumption, by assumption⟩
  go_wp2_with (first
      | (go_at_call 18; (with_reducible refine (HF.out _ ST5.out.targ).mono ?_); rintro e v6 ⟨rfl, hb⟩; have ST6 := Lib.hid (ST5.out.below hb); obtain ⟨i6, j6, k6, -⟩ := ST6.out; clear hb)
      | (go_at_call 14; (with_reducible refine (HS1.out _ ST6.out.targ).mono ?_); rintro e v7 ⟨rfl, hb⟩; have ST7 := Lib.hid (ST6.out.below hb); obtain ⟨i7, j7, k7, -⟩ := ST7.out; clear hb)
      | (go_at_call 21; (with_reducible refine (HN.out _ ST7.out.targ).mono ?_); rintro e v8 ⟨rfl, hb⟩; have ST8 := Lib.hid (ST7.out.below hb); obtain ⟨i8, j8, k8, -⟩ := ST8.out; clear hb)
      | (go_at_call 18; (with_reducible refine (HQ.out _ ST8.out.targ).mono ?_); rintro e v9 ⟨rfl, hb⟩; have ST9 := Lib.hid (ST8.out.below hb); obtain ⟨i9, j9, k9, -⟩ := ST9.out; clear hb))
  go_ret
  exact ⟨rfl, ST9.out.bel⟩

set_option maxRecDepth 20000 in
set_option maxHeartbeats 4000000 in
theorem again_shut (b c : Int) (p : Option Addr) (n cap : Nat) (ts : List (Int × Int)) (x1 x2 x : Int) (G : Nat) (w : World) (h : TArg w (.slice p n cap) ts) (h64 : ¬ 64 < n) (hc : chkV b c ts = 0) (hc0 : 1 ≤ c) (hc1 : c ≤ 1073741824) (l1 : bits .and .i64 x1 4294967295 = x) (hx0 : 0 ≤ x) (hx1 : x < 4294967296) (l2 : bits .and .i64 x2 7 = (G : Int)) (hG : G < 8)
    (s : Int) (hs1 : stateV b c ts x = s) (hs2 : stateV b c ts (x + c) = s) (m : Int) (hm0 : 0 < m) (hm1 : m ≤ 1073741824) (ho : bits .and .i64 (s / (2 : Int) ^ G) 1 = 0) (hl : leftV b c ts x G = 0) (hn : nextV b c ts x G = (m, true)) (q r : Int) (hq : stateV b c ts (x + m) = q) (hr : stateV b c ts (x + m - 1) = r) (hq1 : bits .and .i64 (q / (2 : Int) ^ G) 1 = 1) (hr1 : bits .and .i64 (r / (2 : Int) ^ G) 1 = 0) :
    Calls Try.prog 7 #[LV b c (.slice p n cap), .int .i64 x1, .int .i64 x2] w fun e w' => e = .returned (.bool true) ∧ Below w.heap.size w w' := by
  have H1 := Lib.hid state_head
  have H2 := Lib.hid left_head
  have H3 := Lib.hid next_head
  have ST0 := Lib.hid (LSt.new (b := b) (c := c) h)
  have HC := Lib.hid (check_any b c (.slice p n cap) ts)
  rw [hc] at HC
  have HS1 := Lib.hid (state_any b c (.slice p n cap) ts x)
  have HS2 := Lib.hid (state_any b c (.slice p n cap) ts (x + c))
  rw [hs1] at HS1
  rw [hs2] at HS2
  have hw : IntKind.i64.wrap (x + c) = x + c := by rw [IntKind.wrap_i64]; omega
  have HS2w := HS2
  rw [← hw] at HS2w
  clear hw
  have HF := Lib.hid (fun W => left_any b c (.slice p n cap) ts x W G)
  have HN := Lib.hid (fun W => next_any b c (.slice p n cap) ts x W G)
  have d1 : decide (64 < (n : Int)) = false := decide_eq_false (by omega)
  have y1 : wrap64 (x + c) = x + c := by unfold wrap64; omega
  have y2 : wrap64 (2 * c) = 2 * c := by unfold wrap64; omega
  rw [hl] at HF
  rw [hn] at HN
  have HQ := Lib.hid (state_any b c (.slice p n cap) ts (x + m))
  have HR := Lib.hid (state_any b c (.slice p n cap) ts (x + m - 1))
  rw [hq] at HQ
  rw [hr] at HR
  have y3 : decide (2 * c ≤ 0) = false := decide_eq_false (by omega)
  have y5 : decide (0 < m) = true := decide_eq_true hm0
  have y7 : wrap64 (x + m) = x + m := by unfold wrap64; omega
  have y8 : wrap64 (x + m - 1) = x + m - 1 := by unfold wrap64; omega
  clear hl hn hq hr hm0 hm1
  clear h64 hc hs1 hs2 h hc0 hc1 hx0 hx1
  go_enter Try.func7, Try.ntmps7
  go_wp2_with (first
      | (go_at_call 10; (with_reducible refine (H1.out _).mono ?_); rintro e v1 ⟨rfl, hb⟩; have ST1 := Lib.hid (ST0.out.below hb); obtain ⟨i1, j1, k1, -⟩ := ST1.out; clear hb)
      | (go_at_call 17; (with_reducible refine (H2.out _).mono ?_); rintro e v2 ⟨rfl, hb⟩; have ST2 := Lib.hid (ST1.out.below hb); obtain ⟨i2, j2, k2, -⟩ := ST2.out; clear hb)
      | (go_at_call 20; (with_reducible refine (H3.out _).mono ?_); rintro e v3 ⟨rfl, hb⟩; have ST3 := Lib.hid (ST2.out.below hb); obtain ⟨i3, j3, k3, -⟩ := ST3.out; clear hb)
      | (go_at_call 13; (with_reducible refine (HC.out _ ST3.out.targ).mono ?_); rintro e v4 ⟨rfl, hb⟩; have ST4 := Lib.hid (ST3.out.below hb); obtain ⟨i4, j4, k4, -⟩ := ST4.out; clear hb))
  have HST := ST4
  clear i1 j1 k1 i2 j2 k2 i3 j3 k3 i4 j4 k4
  go_region_held3 (fun W => W.cell? ⟨w.heap.size, 0, none⟩ = some (.int .i64 b) ∧ W.cell? ⟨w.heap.size, 1, none⟩ = some (.int .i64 c) ∧ W.cell? ⟨w.heap.size, 2, none⟩ = some (.slice p n cap) ∧ TArg W (.slice p n cap) ts ∧ Below w.heap.size w W ∧ w.heap.size < W.heap.size)
    (first | exact HST.out | exact LSt.below HST.out (bRef _).drew | ((try go_split_ands); exact LSt.below ⟨by assumption, by assumption, by assumption, by assumption, by assumption, by assumption⟩ hb1))
    (first
      | (go_at_call 14; go_split_ands; (with_reducible refine (HS1.out _ (by assumption)).mono ?_); rintro e v5 ⟨rfl, hb1⟩)
      | (go_at_call 14; go_split_ands; (with_reducible refine (HS2w.out _ (by assumption)).mono ?_); rintro e v5 ⟨rfl, hb1⟩))
  go_split_ands
  have ST5 : Hid (LSt w b c (.slice p n cap) ts _) := Lib.hid ⟨by assumption, by assumption, by assumption, by assumption, by assumption, by assumption⟩
  go_wp2_with (first
      | (go_at_call 18; (with_reducible refine (HF.out _ ST5.out.targ).mono ?_); rintro e v6 ⟨rfl, hb⟩; have ST6 := Lib.hid (ST5.out.below hb); obtain ⟨i6, j6, k6, -⟩ := ST6.out; clear hb)
      | (go_at_call 14; (with_reducible refine (HS1.out _ ST6.out.targ).mono ?_); rintro e v7 ⟨rfl, hb⟩; have ST7 := Lib.hid (ST6.out.below hb); obtain ⟨i7, j7, k7, -⟩ := ST7.out; clear hb)
      | (go_at_call 21; (with_reducible refine (HN.out _ ST7.out.targ).mono ?_); rintro e v8 ⟨rfl, hb⟩; have ST8 := Lib.hid (ST7.out.below hb); obtain ⟨i8, j8, k8, -⟩ := ST8.out; clear hb)
      | (go_at_call 14; (with_reducible refine (HQ.out _ ST8.out.targ).mono ?_); rintro e v9 ⟨rfl, hb⟩; have ST9 := Lib.hid (ST8.out.below hb); obtain ⟨i9, j9, k9, -⟩ := ST9.out; clear hb)
      | (go_at_call 14; (with_reducible refine (HR.out _ ST9.out.targ).mono ?_); rintro e v10 ⟨rfl, hb⟩; have ST10 := Lib.hid (ST9.out.below hb); obtain ⟨i10, j10, k10, -⟩ := ST10.out; clear hb))
  go_ret
  exact ⟨rfl, ST10.out.bel⟩

theorem gatesAgain_holds : Rows.GatesAgainSaid := gatesAgain_of (fun b c sl ts x1 x2 w _ _ h _ _ => by
  by_cases h64 : 64 < ts.length
  · exact again_out b c sl ts x1 x2 w h (.inl h64)
  by_cases hc : chkV b c ts = 0
  · have hg := chk_good hc
    have l1 := low32 x1
    have l2 := low3 x2
    obtain ⟨x, hx⟩ : ∃ x, x1 % 4294967296 = x := ⟨_, rfl⟩
    obtain ⟨G, hG⟩ : ∃ G : Nat, x2 % 8 = (G : Int) := ⟨(x2 % 8).toNat, by omega⟩
    rw [hx] at l1
    rw [hG] at l2
    have hs := agSpec (G := G) hc (show 0 ≤ x by omega) (by omega) (by omega)
    have hA := fun q => and_one (q / (2 : Int) ^ G)
    obtain ⟨p, cap, rfl⟩ := h.slice
    rcases hs.bit with h0 | h1
    · obtain ⟨k1, k2⟩ := hs.off h0
      rcases k2 with ⟨k2, k3⟩ | ⟨m, k2, k3, k4, k5, k6⟩
      · exact again_never b c p _ cap ts x1 x2 x G w h h64 hc hg.c0 hg.c1 l1 (by omega) (by omega) l2 (by omega) _ rfl hs.cyc (by rw [hA, h0]) k1 k2 k3
      · exact again_shut b c p _ cap ts x1 x2 x G w h h64 hc hg.c0 hg.c1 l1 (by omega) (by omega) l2 (by omega) _ rfl hs.cyc m k3 k4 (by rw [hA, h0]) k1 k2 _ _ rfl rfl (by rw [hA, k5]) (by rw [hA, k6])
    · obtain ⟨k1, k2⟩ := hs.on h1
      rcases k2 with k2 | ⟨k2, k3, k4, k5⟩
      · exact again_always b c p _ cap ts x1 x2 x G w h h64 hc hg.c0 hg.c1 l1 (by omega) (by omega) l2 (by omega) _ rfl hs.cyc (by rw [hA, h1]) k2 k1
      · exact again_open b c p _ cap ts x1 x2 x G w h h64 hc hg.c0 hg.c1 l1 (by omega) (by omega) l2 (by omega) _ rfl hs.cyc _ k2 k3 (by rw [hA, h1]) rfl k1 _ _ rfl rfl (by rw [hA, k4]) (by rw [hA, k5])
  · exact again_out b c sl ts x1 x2 w h (.inr hc))

end Go.Proofs.Ytpdfgdjomlogbaa
