/- Two clocks held against each other; two rows of eight ints. -/
import Derived.Test.YtihddpoaemhlnaaBtCmp2
import Derived.Laws.StructEq
namespace Go.Proofs.Ytihddpoaemhlnaa
open Go.RowKit Go.Joins

set_option maxRecDepth 100000 in
set_option maxHeartbeats 4000000 in
theorem eqP (a0 a1 a2 a3 b0 b1 b2 b3 : Int) (w : World) (x : Bool) (hx : decide (a0 = b0 ∧ a1 = b1 ∧ a2 = b2 ∧ a3 = b3) = x) : (Op.equalIn 10000 23 (.agg #[.int .i64 a0, .int .i64 a1, .int .i64 a2, .int .i64 a3]) (.agg #[.int .i64 b0, .int .i64 b1, .int .i64 b2, .int .i64 b3])).run Try.prog w = .ok x w := by
  have hs := run_equalIn_struct (P := Try.prog) w 9999 23 #[.int .i64 a0, .int .i64 a1, .int .i64 a2, .int .i64 a3] #[.int .i64 b0, .int .i64 b1, .int .i64 b2, .int .i64 b3] (by kernel_rfl) (by kernel_rfl)
  have uL := Try.underlying23
  have uI := Try.underlying3
  rw [show (10000 : Nat) = 9999 + 1 from rfl]
  refine hs.trans ?_
  clear hs
  unfold Program.fieldsOf
  simp only [uL, Op.eqFields]
  cases g0 : (a0 == b0) with
  | false =>
    have e : ¬ a0 = b0 := by simpa using g0
    subst hx
    rw [decide_eq_false (fun h => e (by simp only [h]))]
    go_simp
  | true =>
  obtain rfl : a0 = b0 := by simpa using g0
  cases g1 : (a1 == b1) with
  | false =>
    have e : ¬ a1 = b1 := by simpa using g1
    subst hx
    rw [decide_eq_false (fun h => e (by simp only [h]))]
    go_simp
  | true =>
  obtain rfl : a1 = b1 := by simpa using g1
  cases g2 : (a2 == b2) with
  | false =>
    have e : ¬ a2 = b2 := by simpa using g2
    subst hx
    rw [decide_eq_false (fun h => e (by simp only [h]))]
    go_simp
  | true =>
  obtain rfl : a2 = b2 := by simpa using g2
  cases g3 : (a3 == b3) with
  | false =>
    have e : ¬ a3 = b3 := by simpa using g3
    subst hx
    rw [decide_eq_false (fun h => e (by simp only [h]))]
    go_simp
  | true =>
  obtain rfl : a3 = b3 := by simpa using g3
  subst hx
  go_simp
theorem run_eqP (a0 a1 a2 a3 b0 b1 b2 b3 : Int) (w : World) (x : Bool) (hx : decide (a0 = b0 ∧ a1 = b1 ∧ a2 = b2 ∧ a3 = b3) = x) : (binOp .eql 23 (.agg #[.int .i64 a0, .int .i64 a1, .int .i64 a2, .int .i64 a3]) (.agg #[.int .i64 b0, .int .i64 b1, .int .i64 b2, .int .i64 b3])).run Try.prog w = .ok (.bool x) w := by
  rw [run_eql_struct, eqP a0 a1 a2 a3 b0 b1 b2 b3 w x hx]
  simp [Result.andThen]
theorem run_neP (a0 a1 a2 a3 b0 b1 b2 b3 : Int) (w : World) (x : Bool) (hx : decide (a0 = b0 ∧ a1 = b1 ∧ a2 = b2 ∧ a3 = b3) = x) : (binOp .neq 23 (.agg #[.int .i64 a0, .int .i64 a1, .int .i64 a2, .int .i64 a3]) (.agg #[.int .i64 b0, .int .i64 b1, .int .i64 b2, .int .i64 b3])).run Try.prog w = .ok (.bool (!x)) w := by
  rw [run_neq_struct, eqP a0 a1 a2 a3 b0 b1 b2 b3 w x hx]
  simp [Result.andThen]

set_option maxRecDepth 100000 in
set_option maxHeartbeats 4000000 in
theorem eqVs (a0 a1 a2 a3 a4 a5 a6 a7 : Int) (w : World) : (Op.equalIn 10000 25 (.agg #[.int .i64 a0, .int .i64 a1, .int .i64 a2, .int .i64 a3, .int .i64 a4, .int .i64 a5, .int .i64 a6, .int .i64 a7]) (.agg #[.int .i64 a0, .int .i64 a1, .int .i64 a2, .int .i64 a3, .int .i64 a4, .int .i64 a5, .int .i64 a6, .int .i64 a7])).run Try.prog w = .ok true w := by
  have hs := run_equalIn_struct (P := Try.prog) w 9999 25 #[.int .i64 a0, .int .i64 a1, .int .i64 a2, .int .i64 a3, .int .i64 a4, .int .i64 a5, .int .i64 a6, .int .i64 a7] #[.int .i64 a0, .int .i64 a1, .int .i64 a2, .int .i64 a3, .int .i64 a4, .int .i64 a5, .int .i64 a6, .int .i64 a7] (by kernel_rfl) (by kernel_rfl)
  have hp := run_equalIn_struct (P := Try.prog) w 9998 23 #[.int .i64 a0, .int .i64 a1, .int .i64 a2, .int .i64 a3] #[.int .i64 a0, .int .i64 a1, .int .i64 a2, .int .i64 a3] (by kernel_rfl) (by kernel_rfl)
  have uV := Try.underlying25
  have uL := Try.underlying23
  have uI := Try.underlying3
  have hp1 : (Op.equalIn 9999 23 (.agg #[.int .i64 a0, .int .i64 a1, .int .i64 a2, .int .i64 a3]) (.agg #[.int .i64 a0, .int .i64 a1, .int .i64 a2, .int .i64 a3])).run Try.prog w = .ok true w := by
    rw [show (9999 : Nat) = 9998 + 1 from rfl]
    refine hp.trans ?_
    unfold Program.fieldsOf
    simp only [uL, Op.eqFields]
    go_simp
  rw [show (10000 : Nat) = 9999 + 1 from rfl]
  refine hs.trans ?_
  clear hs hp
  unfold Program.fieldsOf
  simp only [uV, Op.eqFields]
  go_simp
theorem run_neVs (a0 a1 a2 a3 a4 a5 a6 a7 : Int) (w : World) : (binOp .neq 25 (.agg #[.int .i64 a0, .int .i64 a1, .int .i64 a2, .int .i64 a3, .int .i64 a4, .int .i64 a5, .int .i64 a6, .int .i64 a7]) (.agg #[.int .i64 a0, .int .i64 a1, .int .i64 a2, .int .i64 a3, .int .i64 a4, .int .i64 a5, .int .i64 a6, .int .i64 a7])).run Try.prog w = .ok (.bool false) w := by
  rw [run_neq_struct, eqVs a0 a1 a2 a3 a4 a5 a6 a7 w]
  simp [Result.andThen]

end Go.Proofs.Ytihddpoaemhlnaa
