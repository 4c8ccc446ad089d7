/- Two frames that wait, held against each other. -/
import Derived.Test.YtllmfkodgalklaaPoLnWays
import Derived.Laws.StructEq
namespace Go.Proofs.Ytllmfkodgalklaa
open Go.RowKit Go.Joins

set_option maxRecDepth 100000 in
set_option maxHeartbeats 4000000 in
theorem eqIt (x y : It) (w : World) (r : Bool) (hr : decide (x = y) = r) : (Op.equalIn 10000 35 (itv x) (itv y)).run Try.prog w = .ok r w := by
  obtain ⟨a0, a1, a2⟩ := x
  obtain ⟨b0, b1, b2⟩ := y
  have hs := run_equalIn_struct (P := Try.prog) w 9999 35 #[.int .i64 a0, .int .i64 a1, .bool a2] #[.int .i64 b0, .int .i64 b1, .bool b2] (by kernel_rfl) (by kernel_rfl)
  have uL := Try.underlying35
  have uI := Try.underlying3
  have uB := Try.underlying4
  unfold itv
  rw [show (10000 : Nat) = 9999 + 1 from rfl]
  refine hs.trans ?_
  clear hs
  unfold Program.fieldsOf
  simp only [uL, Op.eqFields]
  cases g0 : (a0 == b0) with
  | false =>
    have e : ¬ a0 = b0 := by simpa using g0
    subst hr
    rw [decide_eq_false (fun h => e (by injection h))]
    go_simp
  | true =>
  obtain rfl : a0 = b0 := by simpa using g0
  cases g1 : (a1 == b1) with
  | false =>
    have e : ¬ a1 = b1 := by simpa using g1
    subst hr
    rw [decide_eq_false (fun h => e (by injection h with _ h; injection h))]
    go_simp
  | true =>
  obtain rfl : a1 = b1 := by simpa using g1
  cases g2 : (a2 == b2) with
  | false =>
    have e : ¬ a2 = b2 := by simpa using g2
    subst hr
    rw [decide_eq_false (fun h => e (by injection h with _ h; injection h))]
    go_simp
  | true =>
  obtain rfl : a2 = b2 := by simpa using g2
  subst hr
  go_simp
theorem run_eqIt (x y : It) (w : World) (r : Bool) (hr : decide (x = y) = r) : (binOp .eql 35 (itv x) (itv y)).run Try.prog w = .ok (.bool r) w := by
  have h := eqIt x y w r hr
  unfold itv at h ⊢
  rw [run_eql_struct, h]
  rfl
theorem run_neIt (x y : It) (w : World) (r : Bool) (hr : decide (x = y) = r) : (binOp .neq 35 (itv x) (itv y)).run Try.prog w = .ok (.bool (!r)) w := by
  have h := eqIt x y w r hr
  unfold itv at h ⊢
  rw [run_neq_struct, h]
  rfl

end Go.Proofs.Ytllmfkodgalklaa
