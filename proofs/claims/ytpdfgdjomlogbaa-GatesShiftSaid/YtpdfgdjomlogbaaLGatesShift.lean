/- For every list of gates and ints GatesShift answers true: a list whose base is moved does the same as much later. No condition. -/
import Derived.Test.YtpdfgdjomlogbaaFGatesShift
import Derived.Test.YtpdfgdjomlogbaaGtLow
import Derived.Deep.RegionHeld3
namespace Go.Proofs.Ytpdfgdjomlogbaa
open Go.RowKit Go.Joins

set_option maxHeartbeats 1000000 in
theorem shift_out (b c : Int) (sl : Value) (ts : List (Int × Int)) (x1 x2 x3 : Int) (w : World) (h : TArg w sl ts) (hc : 64 < ts.length ∨ chkV b c ts ≠ 0) :
    Calls Try.prog 9 #[LV b c sl, .int .i64 x1, .int .i64 x2, .int .i64 x3] w fun e w' => e = .returned (.bool true) ∧ Below w.heap.size w w' := by
  have H1 := Lib.hid state_head
  have H2 := Lib.hid left_head
  have H3 := Lib.hid next_head
  have HL0 := Lib.hid (LB.new w b c sl)
  have HA0 := Lib.hid (h.below (bAl (bRef w) (BO b c sl)))
  have HC := Lib.hid (check_any b c sl ts)
  obtain ⟨p, cap, rfl⟩ := h.slice
  by_cases h64 : 64 < ts.length
  · have d1 : decide (64 < (ts.length : Int)) = true := decide_eq_true (by omega)
    generalize ts.length = n at *
    clear h64 hc h
    go_enter Try.func9, Try.ntmps9
    go_wp2_with (first
      | (go_at_call 10; (with_reducible refine (H1.out _).mono ?_); rintro e w1 ⟨rfl, hb⟩; have L1 := Lib.hid (HL0.out.below hb); have B1 := Lib.hid (bTr (bAl (bRef w) _) hb); clear hb)
      | (go_at_call 17; (with_reducible refine (H2.out _).mono ?_); rintro e w2 ⟨rfl, hb⟩; have L2 := Lib.hid (L1.out.below hb); have B2 := Lib.hid (bTr B1.out hb); clear hb)
      | (go_at_call 20; (with_reducible refine (H3.out _).mono ?_); rintro e w3 ⟨rfl, hb⟩; have L3 := Lib.hid (L2.out.below hb); obtain ⟨l0, l1, l2⟩ := L3.out.cells; have B3 := Lib.hid (bTr B2.out hb); clear hb))
    go_ret
    exact ⟨rfl, B3.out⟩
  · have d1 : decide (64 < (ts.length : Int)) = false := decide_eq_false (by omega)
    have d2 : (chkV b c ts != 0) = true := by simpa using hc.resolve_left h64
    generalize chkV b c ts = z at *
    generalize ts.length = n at *
    clear h64 hc h
    go_enter Try.func9, Try.ntmps9
    go_wp2_with (first
      | (go_at_call 10; (with_reducible refine (H1.out _).mono ?_); rintro e w1 ⟨rfl, hb⟩; have L1 := Lib.hid (HL0.out.below hb); have A1 := Lib.hid (HA0.out.below hb); have B1 := Lib.hid (bTr (bAl (bRef w) _) hb); clear hb)
      | (go_at_call 17; (with_reducible refine (H2.out _).mono ?_); rintro e w2 ⟨rfl, hb⟩; have L2 := Lib.hid (L1.out.below hb); have A2 := Lib.hid (A1.out.below hb); have B2 := Lib.hid (bTr B1.out hb); clear hb)
      | (go_at_call 20; (with_reducible refine (H3.out _).mono ?_); rintro e w3 ⟨rfl, hb⟩; have L3 := Lib.hid (L2.out.below hb); have A3 := Lib.hid (A2.out.below hb); obtain ⟨l0, l1, l2⟩ := L3.out.cells; have B3 := Lib.hid (bTr B2.out hb); clear hb)
      | (go_at_call 13; (with_reducible refine (HC.out _ A3.out).mono ?_); rintro e w4 ⟨rfl, hb⟩; have B4 := Lib.hid (bTr B3.out hb); clear hb))
    go_ret
    exact ⟨rfl, B4.out⟩

/-- Both lists in their boxes. -/
def ShSt (w w4 : World) (b d c : Int) (sl : Value) (ts : List (Int × Int)) (W : World) : Prop :=
  W.cell? ⟨w.heap.size, 0, none⟩ = some (.int .i64 b) ∧ W.cell? ⟨w.heap.size, 1, none⟩ = some (.int .i64 c) ∧ W.cell? ⟨w.heap.size, 2, none⟩ = some sl ∧
  W.cell? ⟨w4.heap.size, 0, none⟩ = some (.int .i64 d) ∧ W.cell? ⟨w4.heap.size, 1, none⟩ = some (.int .i64 c) ∧ W.cell? ⟨w4.heap.size, 2, none⟩ = some sl ∧ TArg W sl ts ∧ Below w.heap.size w W ∧ w.heap.size < W.heap.size ∧ w4.heap.size < W.heap.size
theorem ShSt.below {w w4 W W' : World} {b d c : Int} {sl : Value} {ts : List (Int × Int)} (h : ShSt w w4 b d c sl ts W) (hb : Below W.heap.size W W') : ShSt w w4 b d c sl ts W' := by
  obtain ⟨h0, h1, h2, h3, h4, h5, h6, h7, h8, h9⟩ := h
  exact ⟨(hb.cell h8).trans h0, (hb.cell h8).trans h1, (hb.cell h8).trans h2, (hb.cell h9).trans h3, (hb.cell h9).trans h4, (hb.cell h9).trans h5, h6.below hb, bTr h7 hb, Nat.lt_of_lt_of_le h8 hb.size, Nat.lt_of_lt_of_le h9 hb.size⟩
theorem ShSt.mk {w w4 W : World} {b d c : Int} {sl : Value} {ts : List (Int × Int)} (h1 : LB W w.heap.size b c sl) (h2 : LB W w4.heap.size d c sl) (h3 : TArg W sl ts) (h4 : Below w.heap.size w W) : ShSt w w4 b d c sl ts W :=
  ⟨h1.cells.1, h1.cells.2.1, h1.cells.2.2, h2.cells.1, h2.cells.2.1, h2.cells.2.2, h3, h4, lt_of_heap h1, lt_of_heap h2⟩
set_option maxRecDepth 20000 in
set_option maxHeartbeats 4000000 in
theorem shift_in (b c : Int) (sl : Value) (ts : List (Int × Int)) (x1 x2 x3 : Int) (w : World) (h : TArg w sl ts) (h64 : ¬ 64 < ts.length) (hc : chkV b c ts = 0) :
    Calls Try.prog 9 #[LV b c sl, .int .i64 x1, .int .i64 x2, .int .i64 x3] w fun e w' => e = .returned (.bool true) ∧ Below w.heap.size w w' := by
  have H1 := Lib.hid state_head
  have H2 := Lib.hid left_head
  have H3 := Lib.hid next_head
  have HL0 := Lib.hid (LB.new w b c sl)
  have HA0 := Lib.hid (h.below (bAl (bRef w) (BO b c sl)))
  have HC := check_any b c sl ts
  rw [hc] at HC
  have HC := Lib.hid HC
  have hg := chk_good hc
  have l1 := low24 x1
  have l2 := low24 x2
  have l3 := low3 x3
  obtain ⟨y, hy⟩ : ∃ y, x1 % 16777216 = y := ⟨_, rfl⟩
  obtain ⟨x, hx⟩ : ∃ x, x2 % 16777216 = x := ⟨_, rfl⟩
  obtain ⟨g, hgt⟩ : ∃ g, x3 % 8 = g := ⟨_, rfl⟩
  rw [hy] at l1
  rw [hx] at l2
  rw [hgt] at l3
  have hb0 := hg.b0
  have hb1 := hg.b1
  have w1 : wrap64 (b + y) = b + y := by unfold wrap64; omega
  have w2 : wrap64 (x + y) = x + y := by unfold wrap64; omega
  have hT1 : Tells b c ts x := ⟨⟨by omega, by omega⟩, hc⟩
  have HN1 := Lib.hid (fun W => next_any b c sl ts x W g)
  have HS1 := Lib.hid (state_any b c sl ts x)
  have HF1 := Lib.hid (fun W => left_any b c sl ts x W g)
  have HC2 := Lib.hid (check_any (b + y) c sl ts)
  have d1 : decide (64 < (ts.length : Int)) = false := decide_eq_false (by omega)
  by_cases hc2 : chkV (b + y) c ts = 0
  · have hT2 : Tells (b + y) c ts (x + y) := ⟨⟨by omega, by omega⟩, hc2⟩
    have HN2 := Lib.hid (fun W => next_any (b + y) c sl ts (x + y) W g)
    have HS2 := Lib.hid (state_any (b + y) c sl ts (x + y))
    have HF2 := Lib.hid (fun W => left_any (b + y) c sl ts (x + y) W g)
    rw [next_shift hT1 hT2] at HN2
    rw [state_shift hT1 hT2] at HS2
    rw [left_shift hT1 hT2] at HF2
    rw [hc2] at HC2
    have hw : IntKind.i64.wrap (x + y) = x + y := by rw [IntKind.wrap_i64]; omega
    rw [← hw] at HS2 HF2
    clear hw
    obtain ⟨⟨v1, v2⟩, hv⟩ : ∃ v, nextV b c ts x g = v := ⟨_, rfl⟩
    rw [hv] at HN1 HN2
    generalize stateV b c ts x = s at *
    generalize leftV b c ts x g = f at *
    obtain ⟨p, cap, rfl⟩ := h.slice
    generalize ts.length = n at *
    have e1 : (s == s) = true := by simp
    have e2 : (f == f) = true := by simp
    clear h64 hc hc2 hT1 hT2 hv hg hy hx hgt hb0 hb1
    go_enter Try.func9, Try.ntmps9
    go_wp2_with (first
      | (go_at_call 10; (with_reducible refine (H1.out _).mono ?_); rintro e w1 ⟨rfl, hb⟩; have L1 := Lib.hid (HL0.out.below hb); have A1 := Lib.hid (HA0.out.below hb); have B1 := Lib.hid (bTr (bAl (bRef w) _) hb); clear hb)
      | (go_at_call 17; (with_reducible refine (H2.out _).mono ?_); rintro e w2 ⟨rfl, hb⟩; have L2 := Lib.hid (L1.out.below hb); have A2 := Lib.hid (A1.out.below hb); have B2 := Lib.hid (bTr B1.out hb); clear hb)
      | (go_at_call 20; (with_reducible refine (H3.out _).mono ?_); rintro e w3 ⟨rfl, hb⟩; have L3 := Lib.hid (L2.out.below hb); have A3 := Lib.hid (A2.out.below hb); obtain ⟨l0, l1, l2⟩ := L3.out.cells; have B3 := Lib.hid (bTr B2.out hb); clear hb)
      | (go_at_call 13; (with_reducible refine (HC.out _ A3.out).mono ?_); rintro e w4 ⟨rfl, hb⟩; have L4 := Lib.hid (L3.out.below hb); have A4 := Lib.hid (A3.out.below hb); obtain ⟨i0, i1, i2⟩ := L4.out.cells; have B4 := Lib.hid (bTr B3.out hb); obtain ⟨f0, f1, f2⟩ := (L4.out.below (bAl (bRef w4) (BO b c (.slice p n cap)))).cells; obtain ⟨f3, f4, f5⟩ := (LB.new w4 b c (.slice p n cap)).cells; have f6 := (LB.new w4 b c (.slice p n cap)).frozen 0; have M6 := Lib.hid (LB.new w4 (b + y) c (.slice p n cap)); have L6 := Lib.hid (L4.out.below (bAl (bRef w4) (BO (b + y) c (.slice p n cap)))); have B6 := Lib.hid (bAl (bRef w4) (BO (b + y) c (.slice p n cap))); obtain ⟨g3, g4, g5⟩ := M6.out.cells; obtain ⟨g0, g1, g2⟩ := L6.out.cells; have A6 := Lib.hid (A4.out.below B6.out); clear hb)
      | (go_at_call 13; (with_reducible refine (HC2.out _ A6.out).mono ?_); rintro e w7 ⟨rfl, hb⟩; have L7 := Lib.hid (L6.out.below hb); have M7 := Lib.hid (M6.out.below hb); have A7 := Lib.hid (A6.out.below hb); obtain ⟨i0, i1, i2⟩ := L7.out.cells; obtain ⟨j0, j1, j2⟩ := M7.out.cells; have B7 := Lib.hid (bTr (bTr B4.out B6.out) hb); clear hb)
      | (go_at_call 21; (with_reducible refine (HN1.out _ A7.out).mono ?_); rintro e w8 ⟨rfl, hb⟩; have L8 := Lib.hid (L7.out.below hb); have M8 := Lib.hid (M7.out.below hb); have A8 := Lib.hid (A7.out.below hb); obtain ⟨i0, i1, i2⟩ := L8.out.cells; obtain ⟨j0, j1, j2⟩ := M8.out.cells; have B8 := Lib.hid (bTr B7.out hb); clear hb)
      | (go_at_call 21; (with_reducible refine (HN2.out _ A8.out).mono ?_); rintro e w9 ⟨rfl, hb⟩; have L9 := Lib.hid (L8.out.below hb); have M9 := Lib.hid (M8.out.below hb); have A9 := Lib.hid (A8.out.below hb); obtain ⟨i0, i1, i2⟩ := L9.out.cells; obtain ⟨j0, j1, j2⟩ := M9.out.cells; have B9 := Lib.hid (bTr B8.out hb); clear hb))
    have HST : ShSt w w4 b (b + y) c (.slice p n cap) ts w9 := ShSt.mk L9.out M9.out A9.out B9.out
    have HST := Lib.hid HST
    clear L1 L2 L3 L4 M6 L6 L7 M7 L8 M8 L9 M9 A1 A2 A3 A4 A6 A7 A8 A9 B1 B2 B3 B4 B6 B7 B8 B9 l0 l1 l2 f0 f1 f2 f3 f4 f5 f6 g0 g1 g2 g3 g4 g5
    go_region_held3 (fun W => W.cell? ⟨w.heap.size, 0, none⟩ = some (.int .i64 b) ∧ W.cell? ⟨w.heap.size, 1, none⟩ = some (.int .i64 c) ∧ W.cell? ⟨w.heap.size, 2, none⟩ = some (.slice p n cap) ∧
        W.cell? ⟨w4.heap.size, 0, none⟩ = some (.int .i64 (b + y)) ∧ W.cell? ⟨w4.heap.size, 1, none⟩ = some (.int .i64 c) ∧ W.cell? ⟨w4.heap.size, 2, none⟩ = some (.slice p n cap) ∧ TArg W (.slice p n cap) ts ∧ Below w.heap.size w W ∧ w.heap.size < W.heap.size ∧ w4.heap.size < W.heap.size)
      (first | exact HST.out | exact ShSt.below HST.out (bRef _).drew | ((try go_split_ands); exact ShSt.below ⟨by assumption, by assumption, by assumption, by assumption, by assumption, by assumption, by assumption, by assumption, by assumption, by assumption⟩ hb1))
      (first
        | (go_at_call 14; go_split_ands; (with_reducible refine (HS1.out _ (by assumption)).mono ?_); rintro e w10 ⟨rfl, hb1⟩)
        | (go_at_call 14; go_split_ands; (with_reducible refine (HS2.out _ (by assumption)).mono ?_); rintro e w10 ⟨rfl, hb1⟩)
        | (go_at_call 18; go_split_ands; (with_reducible refine (HF1.out _ (by assumption)).mono ?_); rintro e w10 ⟨rfl, hb1⟩)
        | (go_at_call 18; go_split_ands; (with_reducible refine (HF2.out _ (by assumption)).mono ?_); rintro e w10 ⟨rfl, hb1⟩))
    go_split_ands
    go_wp2_with fail
    go_ret
    exact ⟨rfl, by assumption⟩
  · have d2 : (chkV (b + y) c ts != 0) = true := by simpa using hc2
    generalize chkV (b + y) c ts = z at *
    obtain ⟨p, cap, rfl⟩ := h.slice
    generalize ts.length = n at *
    clear h64 hc hc2 hT1 hg hy hx hgt hb0 hb1 HN1 HS1 HF1
    go_enter Try.func9, Try.ntmps9
    go_wp2_with (first
      | (go_at_call 10; (with_reducible refine (H1.out _).mono ?_); rintro e w1 ⟨rfl, hb⟩; have L1 := Lib.hid (HL0.out.below hb); have A1 := Lib.hid (HA0.out.below hb); have B1 := Lib.hid (bTr (bAl (bRef w) _) hb); clear hb)
      | (go_at_call 17; (with_reducible refine (H2.out _).mono ?_); rintro e w2 ⟨rfl, hb⟩; have L2 := Lib.hid (L1.out.below hb); have A2 := Lib.hid (A1.out.below hb); have B2 := Lib.hid (bTr B1.out hb); clear hb)
      | (go_at_call 20; (with_reducible refine (H3.out _).mono ?_); rintro e w3 ⟨rfl, hb⟩; have L3 := Lib.hid (L2.out.below hb); have A3 := Lib.hid (A2.out.below hb); obtain ⟨l0, l1, l2⟩ := L3.out.cells; have B3 := Lib.hid (bTr B2.out hb); clear hb)
      | (go_at_call 13; (with_reducible refine (HC.out _ A3.out).mono ?_); rintro e w4 ⟨rfl, hb⟩; have L4 := Lib.hid (L3.out.below hb); have A4 := Lib.hid (A3.out.below hb); obtain ⟨i0, i1, i2⟩ := L4.out.cells; have B4 := Lib.hid (bTr B3.out hb); obtain ⟨f0, f1, f2⟩ := (L4.out.below (bAl (bRef w4) (BO b c (.slice p n cap)))).cells; obtain ⟨f3, f4, f5⟩ := (LB.new w4 b c (.slice p n cap)).cells; have f6 := (LB.new w4 b c (.slice p n cap)).frozen 0; have M6 := Lib.hid (LB.new w4 (b + y) c (.slice p n cap)); have L6 := Lib.hid (L4.out.below (bAl (bRef w4) (BO (b + y) c (.slice p n cap)))); have B6 := Lib.hid (bAl (bRef w4) (BO (b + y) c (.slice p n cap))); obtain ⟨g3, g4, g5⟩ := M6.out.cells; obtain ⟨g0, g1, g2⟩ := L6.out.cells; have A6 := Lib.hid (A4.out.below B6.out); clear hb)
      | (go_at_call 13; (with_reducible refine (HC2.out _ A6.out).mono ?_); rintro e w7 ⟨rfl, hb⟩; have B7 := Lib.hid (bTr (bTr B4.out B6.out) hb); clear hb))
    go_ret
    exact ⟨rfl, B7.out⟩

theorem gatesShift_holds : Rows.GatesShiftSaid := gatesShift_of (fun b c sl ts x1 x2 x3 w _ _ h _ _ _ => by
  by_cases h64 : 64 < ts.length
  · exact shift_out b c sl ts x1 x2 x3 w h (.inl h64)
  · by_cases hc : chkV b c ts = 0
    · exact shift_in b c sl ts x1 x2 x3 w h h64 hc
    · exact shift_out b c sl ts x1 x2 x3 w h (.inr hc))

end Go.Proofs.Ytpdfgdjomlogbaa
