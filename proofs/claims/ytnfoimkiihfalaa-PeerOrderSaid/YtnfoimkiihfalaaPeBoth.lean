/- Package peer: between, bothWays, where nothing fails. -/
import Derived.Test.YtnfoimkiihfalaaPeIn
import Derived.Deep.QuietTactic
namespace Go.Proofs.Ytnfoimkiihfalaa
open Go.RowKit Go.Joins

theorem subq_go (s d v : Int) (b1 b2 : Bool) (hv : wrap64 (s - d) = v) (h1 : decide (s < v) = b1) (h2 : decide (d < 0) = b2) (w : World) :
    Calls Try.prog 53 #[.int .i64 s, .int .i64 d] w fun e w' => e = .returned (.tuple #[.int .i64 (if (b1 != b2) = true then 0 else v), .int .i64 (if (b1 != b2) = true then 10 else 0)]) ∧ w' = w := by
  cases b1 <;> cases b2
  all_goals
    go_enter Try.func53, Try.ntmps53
    go_wp2_with fail
    go_ret2
    exact ⟨rfl, rfl⟩
/-- A difference that fits, and nothing else. -/
theorem subq {a b : Int} (ha : In64 a) (hb : In64 b) (h : In64 (a - b)) (w : World) : Calls Try.prog 53 #[.int .i64 a, .int .i64 b] w fun e w' => e = .returned (.tuple #[.int .i64 (a - b), .int .i64 0]) ∧ w' = w := by
  unfold In64 at ha hb h
  have H := subq_go a b _ _ _ rfl rfl rfl w
  have e2 : wrap64 (a - b) = a - b := by unfold wrap64; omega
  have e : (decide (a < a - b) != decide (b < 0)) = false := by
    rw [bne_eq_false_iff_eq, decide_eq_decide]; omega
  rw [e2, e] at H
  exact H
/-- What is reckoned of a mark and four times, if all fits. -/
structure Reck (a3 a4 t1 t2 t3 t4 R I V B : Int) : Prop where
  i3 : In64 (t3 - a3)
  i4 : In64 (t4 - a4)
  bE : btE (t3 - a3) (t4 - a4) = 0
  bV : btV (t3 - a3) (t4 - a4) = R
  iR : In64 R
  iw : In64 (t4 - t1)
  it : In64 (t3 - t2)
  vE : rE 2199023255552 2199023255552 R = 0
  vI : rV 2199023255552 2199023255552 R = I
  iI : In64 I
  sE : rE I (t3 - t2) 2199023255552 = 0
  sV : rV I (t3 - t2) 2199023255552 = V
  iV : In64 V
  ib : In64 (t4 - t1 - V)
  hB : t4 - t1 - V = B
theorem between_ok {a3 a4 t1 t2 t3 t4 R I V B : Int} (h : Reck a3 a4 t1 t2 t3 t4 R I V B) (h1 : In64 a3) (h2 : In64 a4) (h3 : In64 t3) (h4 : In64 t4) (w : World) :
    Calls Try.prog 57 #[.agg #[.int .i64 a3, .int .i64 a4], .agg #[.int .i64 t3, .int .i64 t4]] w fun e w' => e = .returned (.tuple #[.int .i64 R, .int .i64 0]) ∧ Below w.heap.size w w' := by
  have H1 := Lib.hid (fun W => subq h3 h1 h.i3 W)
  have H2 := Lib.hid (fun W => subq h4 h2 h.i4 W)
  have H3 := bt_ret h.i3 h.i4
  rw [h.bE, h.bV] at H3
  replace H3 := Lib.hid H3
  clear h h1 h2 h3 h4
  go_enter Try.func57, Try.ntmps57
  go_wp2_with (first
    | (go_at_call 53; (with_reducible refine (H1.out _).mono ?_); rintro e w1 ⟨rfl, rfl⟩)
    | (go_at_call 53; (with_reducible refine (H2.out _).mono ?_); rintro e w1 ⟨rfl, rfl⟩)
    | (go_at_call 36; (with_reducible refine (H3.out.go _).mono ?_); rintro e w1 ⟨rfl, hb⟩; have HB := Lib.hid (bTr (bAl (bAl (bRef w) _) _) hb); clear hb))
  go_ret2
  exact ⟨rfl, HB.out⟩
theorem both_ok {a3 a4 t1 t2 t3 t4 R I V B : Int} (h : Reck a3 a4 t1 t2 t3 t4 R I V B) {w : World} {b : Nat} (h1 : In64 t1) (h2 : In64 t2) (h3 : In64 t3) (h4 : In64 t4) (c8 : w.cell? ⟨b, 8, none⟩ = some (.int .i64 t1)) (c9 : w.cell? ⟨b, 9, none⟩ = some (.int .i64 t2)) (c10 : w.cell? ⟨b, 10, none⟩ = some (.int .i64 t4)) :
    Calls Try.prog 58 #[.pointer (some ⟨b, 0, none⟩), .int .i64 t3, .int .i64 R] w fun e w' => e = .returned (.tuple #[.int .i64 B, .int .i64 0]) ∧ Below w.heap.size w w' := by
  have H1 := Lib.hid (fun W => subq h4 h1 h.iw W)
  have H2 := Lib.hid (fun W => subq h3 h2 h.it W)
  have H3 := rInv_ret h.iR
  rw [h.vE, h.vI] at H3
  replace H3 := Lib.hid H3
  have H4 := by_ret h.it h.iI
  rw [h.sE, h.sV] at H4
  replace H4 := Lib.hid H4
  have H5 : ∀ W, Calls Try.prog 53 #[.int .i64 (t4 - t1), .int .i64 V] W fun e w' => e = .returned (.tuple #[.int .i64 B, .int .i64 0]) ∧ w' = W := fun W => by
    have := subq h.iw h.iV h.ib W
    rw [h.hB] at this
    exact this
  replace H5 := Lib.hid H5
  have lt := block_lt_cell c8
  clear h h1 h2 h3 h4
  generalize t4 - t1 = Z1 at *
  generalize t3 - t2 = Z2 at *
  go_enter Try.func58, Try.ntmps58
  go_wp2_with fail
  go_quiet ((go_at_call 53; exact Calls.quiet_of_same (H1.out _)))
  go_wp2_with (first
    | (go_at_call 53; (with_reducible refine (H2.out _).mono ?_); rintro e w1 ⟨rfl, rfl⟩)
    | (go_at_call 67; (with_reducible refine (H3.out.go _).mono ?_); rintro e w1 ⟨rfl, hb⟩; have HB := Lib.hid (bTr (bDr (bRef w) _) hb); clear hb)
    | (go_at_call 23; (with_reducible refine (H4.out.go _).mono ?_); rintro e w2 ⟨rfl, hb⟩; have HB2 := Lib.hid (bTr HB.out hb); clear hb)
    | (go_at_call 53; (with_reducible refine (H5.out _).mono ?_); rintro e w3 ⟨rfl, rfl⟩))
  go_ret2
  exact ⟨rfl, HB2.out⟩

end Go.Proofs.Ytnfoimkiihfalaa
