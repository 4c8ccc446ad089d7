/- For every list of gates and ints GatesLefts answers true: for how long a gate is open from any time on, as the reference has it. No condition. -/
import Derived.Test.YtpdfgdjomlogbaaFGatesLefts
import Derived.Test.YtpdfgdjomlogbaaGtRef6
namespace Go.Proofs.Ytpdfgdjomlogbaa
open Go.RowKit Go.Joins

theorem left_long (b c : Int) (p : Option Addr) (n cap : Nat) (x1 x2 : Int) (w : World) (h64 : 64 < n) :
    Calls Try.prog 4 #[LV b c (.slice p n cap), .int .i64 x1, .int .i64 x2] w fun e w' => e = .returned (.bool true) ∧ Below w.heap.size w w' := by
  have H1 := Lib.hid left_head
  have HL0 := Lib.hid (LB.new w b c (.slice p n cap))
  have d1 : decide (64 < (n : Int)) = true := decide_eq_true (by omega)
  clear h64
  go_enter Try.func4, Try.ntmps4
  go_wp2_with (go_at_call 17; (with_reducible refine (H1.out _).mono ?_); rintro e v1 ⟨rfl, hb⟩; have HL1 := Lib.hid (HL0.out.below hb); have HB1 := Lib.hid (bTr (bAl (bRef w) _) hb); obtain ⟨i1, j1, k1⟩ := HL1.out.cells; clear hb)
  go_ret
  exact ⟨rfl, HB1.out⟩
set_option maxHeartbeats 1000000 in
theorem left_no1 (b c : Int) (p : Option Addr) (n cap : Nat) (ts : List (Int × Int)) (x1 x2 : Int) (w : World) (h : TArg w (.slice p n cap) ts) (hn : n = ts.length) (h64 : ¬ 64 < n) (hc : chkV b c ts ≠ 0) :
    Calls Try.prog 4 #[LV b c (.slice p n cap), .int .i64 x1, .int .i64 x2] w fun e w' => e = .returned (.bool true) ∧ Below w.heap.size w w' := by
  have H1 := Lib.hid left_head
  have ST0 := Lib.hid (LSt.new (b := b) (c := c) h)
  have HC := Lib.hid (fun W sl' (h : TArg W sl' ts) => rcheck_any b c sl' ts W h)
  have HI := Lib.hid (inside_any x1)
  have HPL := Lib.hid (fun W sl' (h : TArg W sl' ts) => plain_any (b := b) (c := c) h (by omega))
  have HF := Lib.hid (fun W (h : TArg W (.slice p n cap) ts) => left_any b c (.slice p n cap) ts x1 W x2 h)
  rw [left_none (by exact fun k => hc k.1.2)] at HF
  have d1 : decide (64 < (n : Int)) = false := decide_eq_false (by omega)
  have d2 : (chkV b c ts != 0) = true := by simpa using hc
  generalize chkV b c ts = z at *
  clear hc
  clear h64 h hn
  go_enter Try.func4, Try.ntmps4
  go_wp2_with (first
      | (go_at_call 17; (with_reducible refine (H1.out _).mono ?_); rintro e v1 ⟨rfl, hb⟩; have ST1 := Lib.hid (ST0.out.below hb); obtain ⟨i1, j1, k1, -⟩ := ST1.out; clear hb)
      | (go_at_call 18; (with_reducible refine (HF.out _ ST1.out.targ).mono ?_); rintro e v2 ⟨rfl, hb⟩; have ST2 := Lib.hid (ST1.out.below hb); obtain ⟨i2, j2, k2, -⟩ := ST2.out; clear hb)
      | (go_at_call 12; (first | (have p0 := ST4; (with_reducible refine (HPL.out _ _ ST4.out.targ).mono ?_); rintro e v5 ⟨sl5, rfl, ht5, hb⟩; have HT5 := Lib.hid ht5; have ST5 := Lib.hid (ST4.out.below hb); obtain ⟨i5, j5, k5, -⟩ := ST5.out; clear hb ht5 p0) | ((with_reducible refine (HPL.out _ _ ST2.out.targ).mono ?_); rintro e v3 ⟨sl3, rfl, ht3, hb⟩; have HT3 := Lib.hid ht3; have ST3 := Lib.hid (ST2.out.below hb); obtain ⟨i3, j3, k3, -⟩ := ST3.out; clear hb ht3)))
      | (go_at_call 11; (with_reducible refine (HC.out _ _ HT3.out).mono ?_); rintro e v4 ⟨rfl, hb⟩; have ST4 := Lib.hid (ST3.out.below hb); obtain ⟨i4, j4, k4, -⟩ := ST4.out; clear hb)
      | (go_at_call 15; (with_reducible refine (HI.out.go _).mono ?_); rintro e w5 ⟨rfl, rfl⟩)
      | (go_at_call 19; (with_reducible refine (HY.out _ _ HT5.out).mono ?_); rintro e v6 ⟨rfl, hb⟩; have ST6 := Lib.hid (ST5.out.below hb); obtain ⟨i6, j6, k6, -⟩ := ST6.out; clear hb))
  go_ret
  exact ⟨rfl, (by first | exact ST4.out.bel | exact ST1.out.bel)⟩
set_option maxHeartbeats 1000000 in
theorem left_no2 (b c : Int) (p : Option Addr) (n cap : Nat) (ts : List (Int × Int)) (x1 x2 : Int) (w : World) (h : TArg w (.slice p n cap) ts) (hn : n = ts.length) (h64 : ¬ 64 < n) (hc : chkV b c ts = 0) (hx : ¬ inT x1) :
    Calls Try.prog 4 #[LV b c (.slice p n cap), .int .i64 x1, .int .i64 x2] w fun e w' => e = .returned (.bool true) ∧ Below w.heap.size w w' := by
  have H1 := Lib.hid left_head
  have ST0 := Lib.hid (LSt.new (b := b) (c := c) h)
  have HC := Lib.hid (fun W sl' (h : TArg W sl' ts) => rcheck_any b c sl' ts W h)
  have HI := Lib.hid (inside_any x1)
  have HPL := Lib.hid (fun W sl' (h : TArg W sl' ts) => plain_any (b := b) (c := c) h (by omega))
  have HF := Lib.hid (fun W (h : TArg W (.slice p n cap) ts) => left_any b c (.slice p n cap) ts x1 W x2 h)
  rw [left_none (by exact fun k => hx k.1.1)] at HF
  have d1 : decide (64 < (n : Int)) = false := decide_eq_false (by omega)
  rw [hc] at HC
  rw [decide_eq_false hx] at HI
  clear hc hx
  clear h64 h hn
  go_enter Try.func4, Try.ntmps4
  go_wp2_with (first
      | (go_at_call 17; (with_reducible refine (H1.out _).mono ?_); rintro e v1 ⟨rfl, hb⟩; have ST1 := Lib.hid (ST0.out.below hb); obtain ⟨i1, j1, k1, -⟩ := ST1.out; clear hb)
      | (go_at_call 18; (with_reducible refine (HF.out _ ST1.out.targ).mono ?_); rintro e v2 ⟨rfl, hb⟩; have ST2 := Lib.hid (ST1.out.below hb); obtain ⟨i2, j2, k2, -⟩ := ST2.out; clear hb)
      | (go_at_call 12; (first | (have p0 := ST4; (with_reducible refine (HPL.out _ _ ST4.out.targ).mono ?_); rintro e v5 ⟨sl5, rfl, ht5, hb⟩; have HT5 := Lib.hid ht5; have ST5 := Lib.hid (ST4.out.below hb); obtain ⟨i5, j5, k5, -⟩ := ST5.out; clear hb ht5 p0) | ((with_reducible refine (HPL.out _ _ ST2.out.targ).mono ?_); rintro e v3 ⟨sl3, rfl, ht3, hb⟩; have HT3 := Lib.hid ht3; have ST3 := Lib.hid (ST2.out.below hb); obtain ⟨i3, j3, k3, -⟩ := ST3.out; clear hb ht3)))
      | (go_at_call 11; (with_reducible refine (HC.out _ _ HT3.out).mono ?_); rintro e v4 ⟨rfl, hb⟩; have ST4 := Lib.hid (ST3.out.below hb); obtain ⟨i4, j4, k4, -⟩ := ST4.out; clear hb)
      | (go_at_call 15; (with_reducible refine (HI.out.go _).mono ?_); rintro e w5 ⟨rfl, rfl⟩)
      | (go_at_call 19; (with_reducible refine (HY.out _ _ HT5.out).mono ?_); rintro e v6 ⟨rfl, hb⟩; have ST6 := Lib.hid (ST5.out.below hb); obtain ⟨i6, j6, k6, -⟩ := ST6.out; clear hb))
  go_ret
  exact ⟨rfl, (by first | exact ST4.out.bel | exact ST1.out.bel)⟩
set_option maxHeartbeats 1000000 in
theorem left_no3 (b c : Int) (p : Option Addr) (n cap : Nat) (ts : List (Int × Int)) (x1 x2 : Int) (w : World) (h : TArg w (.slice p n cap) ts) (hn : n = ts.length) (h64 : ¬ 64 < n) (hc : chkV b c ts = 0) (hx : inT x1) (hg : x2 < 0) :
    Calls Try.prog 4 #[LV b c (.slice p n cap), .int .i64 x1, .int .i64 x2] w fun e w' => e = .returned (.bool true) ∧ Below w.heap.size w w' := by
  have H1 := Lib.hid left_head
  have ST0 := Lib.hid (LSt.new (b := b) (c := c) h)
  have HC := Lib.hid (fun W sl' (h : TArg W sl' ts) => rcheck_any b c sl' ts W h)
  have HI := Lib.hid (inside_any x1)
  have HPL := Lib.hid (fun W sl' (h : TArg W sl' ts) => plain_any (b := b) (c := c) h (by omega))
  have HF := Lib.hid (fun W (h : TArg W (.slice p n cap) ts) => left_any b c (.slice p n cap) ts x1 W x2 h)
  rw [left_none (by exact fun k => by have := k.2.1; omega)] at HF
  have d1 : decide (64 < (n : Int)) = false := decide_eq_false (by omega)
  rw [hc] at HC
  rw [decide_eq_true hx] at HI
  have d2 : decide (x2 < 0) = true := decide_eq_true hg
  clear hc hx hg
  clear h64 h hn
  go_enter Try.func4, Try.ntmps4
  go_wp2_with (first
      | (go_at_call 17; (with_reducible refine (H1.out _).mono ?_); rintro e v1 ⟨rfl, hb⟩; have ST1 := Lib.hid (ST0.out.below hb); obtain ⟨i1, j1, k1, -⟩ := ST1.out; clear hb)
      | (go_at_call 18; (with_reducible refine (HF.out _ ST1.out.targ).mono ?_); rintro e v2 ⟨rfl, hb⟩; have ST2 := Lib.hid (ST1.out.below hb); obtain ⟨i2, j2, k2, -⟩ := ST2.out; clear hb)
      | (go_at_call 12; (first | (have p0 := ST4; (with_reducible refine (HPL.out _ _ ST4.out.targ).mono ?_); rintro e v5 ⟨sl5, rfl, ht5, hb⟩; have HT5 := Lib.hid ht5; have ST5 := Lib.hid (ST4.out.below hb); obtain ⟨i5, j5, k5, -⟩ := ST5.out; clear hb ht5 p0) | ((with_reducible refine (HPL.out _ _ ST2.out.targ).mono ?_); rintro e v3 ⟨sl3, rfl, ht3, hb⟩; have HT3 := Lib.hid ht3; have ST3 := Lib.hid (ST2.out.below hb); obtain ⟨i3, j3, k3, -⟩ := ST3.out; clear hb ht3)))
      | (go_at_call 11; (with_reducible refine (HC.out _ _ HT3.out).mono ?_); rintro e v4 ⟨rfl, hb⟩; have ST4 := Lib.hid (ST3.out.below hb); obtain ⟨i4, j4, k4, -⟩ := ST4.out; clear hb)
      | (go_at_call 15; (with_reducible refine (HI.out.go _).mono ?_); rintro e w5 ⟨rfl, rfl⟩)
      | (go_at_call 19; (with_reducible refine (HY.out _ _ HT5.out).mono ?_); rintro e v6 ⟨rfl, hb⟩; have ST6 := Lib.hid (ST5.out.below hb); obtain ⟨i6, j6, k6, -⟩ := ST6.out; clear hb))
  go_ret
  exact ⟨rfl, (by first | exact ST4.out.bel | exact ST1.out.bel)⟩
set_option maxHeartbeats 1000000 in
theorem left_no4 (b c : Int) (p : Option Addr) (n cap : Nat) (ts : List (Int × Int)) (x1 x2 : Int) (w : World) (h : TArg w (.slice p n cap) ts) (hn : n = ts.length) (h64 : ¬ 64 < n) (hc : chkV b c ts = 0) (hx : inT x1) (hg : 7 < x2) :
    Calls Try.prog 4 #[LV b c (.slice p n cap), .int .i64 x1, .int .i64 x2] w fun e w' => e = .returned (.bool true) ∧ Below w.heap.size w w' := by
  have H1 := Lib.hid left_head
  have ST0 := Lib.hid (LSt.new (b := b) (c := c) h)
  have HC := Lib.hid (fun W sl' (h : TArg W sl' ts) => rcheck_any b c sl' ts W h)
  have HI := Lib.hid (inside_any x1)
  have HPL := Lib.hid (fun W sl' (h : TArg W sl' ts) => plain_any (b := b) (c := c) h (by omega))
  have HF := Lib.hid (fun W (h : TArg W (.slice p n cap) ts) => left_any b c (.slice p n cap) ts x1 W x2 h)
  rw [left_none (by exact fun k => by have := k.2.2; omega)] at HF
  have d1 : decide (64 < (n : Int)) = false := decide_eq_false (by omega)
  rw [hc] at HC
  rw [decide_eq_true hx] at HI
  have d2 : decide (x2 < 0) = false := decide_eq_false (by omega)
  have d3 : decide (7 < x2) = true := decide_eq_true hg
  clear hc hx hg
  clear h64 h hn
  go_enter Try.func4, Try.ntmps4
  go_wp2_with (first
      | (go_at_call 17; (with_reducible refine (H1.out _).mono ?_); rintro e v1 ⟨rfl, hb⟩; have ST1 := Lib.hid (ST0.out.below hb); obtain ⟨i1, j1, k1, -⟩ := ST1.out; clear hb)
      | (go_at_call 18; (with_reducible refine (HF.out _ ST1.out.targ).mono ?_); rintro e v2 ⟨rfl, hb⟩; have ST2 := Lib.hid (ST1.out.below hb); obtain ⟨i2, j2, k2, -⟩ := ST2.out; clear hb)
      | (go_at_call 12; (first | (have p0 := ST4; (with_reducible refine (HPL.out _ _ ST4.out.targ).mono ?_); rintro e v5 ⟨sl5, rfl, ht5, hb⟩; have HT5 := Lib.hid ht5; have ST5 := Lib.hid (ST4.out.below hb); obtain ⟨i5, j5, k5, -⟩ := ST5.out; clear hb ht5 p0) | ((with_reducible refine (HPL.out _ _ ST2.out.targ).mono ?_); rintro e v3 ⟨sl3, rfl, ht3, hb⟩; have HT3 := Lib.hid ht3; have ST3 := Lib.hid (ST2.out.below hb); obtain ⟨i3, j3, k3, -⟩ := ST3.out; clear hb ht3)))
      | (go_at_call 11; (with_reducible refine (HC.out _ _ HT3.out).mono ?_); rintro e v4 ⟨rfl, hb⟩; have ST4 := Lib.hid (ST3.out.below hb); obtain ⟨i4, j4, k4, -⟩ := ST4.out; clear hb)
      | (go_at_call 15; (with_reducible refine (HI.out.go _).mono ?_); rintro e w5 ⟨rfl, rfl⟩)
      | (go_at_call 19; (with_reducible refine (HY.out _ _ HT5.out).mono ?_); rintro e v6 ⟨rfl, hb⟩; have ST6 := Lib.hid (ST5.out.below hb); obtain ⟨i6, j6, k6, -⟩ := ST6.out; clear hb))
  go_ret
  exact ⟨rfl, (by first | exact ST4.out.bel | exact ST1.out.bel)⟩
set_option maxHeartbeats 2000000 in
theorem left_yes (b c : Int) (p : Option Addr) (n cap : Nat) (ts : List (Int × Int)) (x1 : Int) (G : Nat) (w : World) (h : TArg w (.slice p n cap) ts) (hn : n = ts.length) (h64 : ¬ 64 < n) (ht : Tells b c ts x1) (hG : G < 8) :
    Calls Try.prog 4 #[LV b c (.slice p n cap), .int .i64 x1, .int .i64 (G : Int)] w fun e w' => e = .returned (.bool true) ∧ Below w.heap.size w w' := by
  have H1 := Lib.hid left_head
  have ST0 := Lib.hid (LSt.new (b := b) (c := c) h)
  have HC := Lib.hid (fun W sl' (h : TArg W sl' ts) => rcheck_any b c sl' ts W h)
  have HI := Lib.hid (inside_any x1)
  have HPL := Lib.hid (fun W sl' (h : TArg W sl' ts) => plain_any (b := b) (c := c) h (by omega))
  have HF := Lib.hid (fun W (h : TArg W (.slice p n cap) ts) => left_any b c (.slice p n cap) ts x1 W (G : Int) h)
  have hg := chk_good ht.2
  have HY := Lib.hid (fun W sl' (h : TArg W sl' ts) => rstay_any (b := b) (c := c) (x := x1) G true h hg ht.1 hG)
  rw [ht.2] at HC
  rw [decide_eq_true ht.1] at HI
  have d1 : decide (64 < (n : Int)) = false := decide_eq_false (by omega)
  have d2 : decide ((G : Int) < 0) = false := decide_eq_false (by omega)
  have d3 : decide (7 < (G : Int)) = false := decide_eq_false (by omega)
  have hc0 := hg.c0
  have hc1 := hg.c1
  have y2 : wrap64 (2 * c) = 2 * c := by unfold wrap64; omega
  have y3 : (2 * c == 2 * c) = true := by simp
  rw [show oBit true = 1 from rfl] at HY
  rcases left_two ht hG with ⟨e1, e2⟩ | ⟨e1, e2⟩
  · rw [e1] at HF
    rw [e2] at HY
    clear h64 h hn ht hg hc0 hc1 e1 e2
    go_enter Try.func4, Try.ntmps4
    go_wp2_with (first
      | (go_at_call 17; (with_reducible refine (H1.out _).mono ?_); rintro e v1 ⟨rfl, hb⟩; have ST1 := Lib.hid (ST0.out.below hb); obtain ⟨i1, j1, k1, -⟩ := ST1.out; clear hb)
      | (go_at_call 18; (with_reducible refine (HF.out _ ST1.out.targ).mono ?_); rintro e v2 ⟨rfl, hb⟩; have ST2 := Lib.hid (ST1.out.below hb); obtain ⟨i2, j2, k2, -⟩ := ST2.out; clear hb)
      | (go_at_call 12; (first | (have p0 := ST4; (with_reducible refine (HPL.out _ _ ST4.out.targ).mono ?_); rintro e v5 ⟨sl5, rfl, ht5, hb⟩; have HT5 := Lib.hid ht5; have ST5 := Lib.hid (ST4.out.below hb); obtain ⟨i5, j5, k5, -⟩ := ST5.out; clear hb ht5 p0) | ((with_reducible refine (HPL.out _ _ ST2.out.targ).mono ?_); rintro e v3 ⟨sl3, rfl, ht3, hb⟩; have HT3 := Lib.hid ht3; have ST3 := Lib.hid (ST2.out.below hb); obtain ⟨i3, j3, k3, -⟩ := ST3.out; clear hb ht3)))
      | (go_at_call 11; (with_reducible refine (HC.out _ _ HT3.out).mono ?_); rintro e v4 ⟨rfl, hb⟩; have ST4 := Lib.hid (ST3.out.below hb); obtain ⟨i4, j4, k4, -⟩ := ST4.out; clear hb)
      | (go_at_call 15; (with_reducible refine (HI.out.go _).mono ?_); rintro e w5 ⟨rfl, rfl⟩)
      | (go_at_call 19; (with_reducible refine (HY.out _ _ HT5.out).mono ?_); rintro e v6 ⟨rfl, hb⟩; have ST6 := Lib.hid (ST5.out.below hb); obtain ⟨i6, j6, k6, -⟩ := ST6.out; clear hb))
    go_ret
    exact ⟨rfl, ST6.out.bel⟩
  · rw [e1] at HF
    generalize rstayV c ts (gone b c x1) G 1 = v at *
    have y4 : (v == 2 * c) = false := by rw [beq_eq_false_iff_ne]; omega
    have y5 : (v == v) = true := by simp
    clear h64 h hn ht hg hc0 hc1 e1 e2
    go_enter Try.func4, Try.ntmps4
    go_wp2_with (first
      | (go_at_call 17; (with_reducible refine (H1.out _).mono ?_); rintro e v1 ⟨rfl, hb⟩; have ST1 := Lib.hid (ST0.out.below hb); obtain ⟨i1, j1, k1, -⟩ := ST1.out; clear hb)
      | (go_at_call 18; (with_reducible refine (HF.out _ ST1.out.targ).mono ?_); rintro e v2 ⟨rfl, hb⟩; have ST2 := Lib.hid (ST1.out.below hb); obtain ⟨i2, j2, k2, -⟩ := ST2.out; clear hb)
      | (go_at_call 12; (first | (have p0 := ST4; (with_reducible refine (HPL.out _ _ ST4.out.targ).mono ?_); rintro e v5 ⟨sl5, rfl, ht5, hb⟩; have HT5 := Lib.hid ht5; have ST5 := Lib.hid (ST4.out.below hb); obtain ⟨i5, j5, k5, -⟩ := ST5.out; clear hb ht5 p0) | ((with_reducible refine (HPL.out _ _ ST2.out.targ).mono ?_); rintro e v3 ⟨sl3, rfl, ht3, hb⟩; have HT3 := Lib.hid ht3; have ST3 := Lib.hid (ST2.out.below hb); obtain ⟨i3, j3, k3, -⟩ := ST3.out; clear hb ht3)))
      | (go_at_call 11; (with_reducible refine (HC.out _ _ HT3.out).mono ?_); rintro e v4 ⟨rfl, hb⟩; have ST4 := Lib.hid (ST3.out.below hb); obtain ⟨i4, j4, k4, -⟩ := ST4.out; clear hb)
      | (go_at_call 15; (with_reducible refine (HI.out.go _).mono ?_); rintro e w5 ⟨rfl, rfl⟩)
      | (go_at_call 19; (with_reducible refine (HY.out _ _ HT5.out).mono ?_); rintro e v6 ⟨rfl, hb⟩; have ST6 := Lib.hid (ST5.out.below hb); obtain ⟨i6, j6, k6, -⟩ := ST6.out; clear hb))
    go_ret
    exact ⟨rfl, ST6.out.bel⟩

theorem gatesLefts_holds : Rows.GatesLeftsSaid := gatesLefts_of (fun b c sl ts x1 x2 w _ _ h _ _ => by
  obtain ⟨p, cap, rfl⟩ := h.slice
  by_cases h64 : 64 < ts.length
  · exact left_long b c p ts.length cap x1 x2 w h64
  · by_cases hc : chkV b c ts = 0
    · by_cases hx : inT x1
      · by_cases h0 : x2 < 0
        · exact left_no3 b c p _ cap ts x1 x2 w h rfl h64 hc hx h0
        · by_cases h7 : 7 < x2
          · exact left_no4 b c p _ cap ts x1 x2 w h rfl h64 hc hx h7
          · obtain ⟨G, rfl⟩ : ∃ G : Nat, x2 = (G : Int) := ⟨x2.toNat, by omega⟩
            exact left_yes b c p _ cap ts x1 G w h rfl h64 ⟨hx, hc⟩ (by omega)
      · exact left_no2 b c p _ cap ts x1 x2 w h rfl h64 hc hx
    · exact left_no1 b c p _ cap ts x1 x2 w h rfl h64 hc)

end Go.Proofs.Ytpdfgdjomlogbaa
