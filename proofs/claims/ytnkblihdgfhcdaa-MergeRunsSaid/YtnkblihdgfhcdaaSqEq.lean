/- Two rows of four counts held against each other. -/
import Derived.Test.YtnkblihdgfhcdaaSqRot
import Derived.Laws.StructEq
namespace Go.Proofs.Ytnkblihdgfhcdaa
open Go.RowKit Go.Joins

theorem heap_cell {w w1 : World} {g : Nat} (h : w1.heap[g]? = w.heap[g]?) (i : Nat) : w1.cell? ⟨g, i, none⟩ = w.cell? ⟨g, i, none⟩ ∧ w1.frozen? ⟨g, i, none⟩ = w.frozen? ⟨g, i, none⟩ := by
  unfold World.cell? World.frozen?
  simp only [h, and_self]
set_option maxRecDepth 100000 in
set_option maxHeartbeats 4000000 in
theorem eqC4 (a0 a1 a2 a3 b0 b1 b2 b3 : Int) (w : World) (x : Bool) (hx : decide (a0 = b0 ∧ a1 = b1 ∧ a2 = b2 ∧ a3 = b3) = x) : (Op.equalIn 10000 34 (C4 a0 a1 a2 a3) (C4 b0 b1 b2 b3)).run Try.prog w = .ok x w := by
  have uI := Try.underlying3
  have aI := Try.isAgg3
  have zI := Try.sizeOf3
  rw [show (10000 : Nat) = 9999 + 1 from rfl, Op.equalIn]
  simp only [Sem.run_bind, run_underlying Try.underlying34, Result.andThen_ok]
  simp only [Std.Legacy.Range.forIn_eq_forIn_range', Std.Legacy.Range.size, Nat.sub_zero, Nat.add_sub_cancel, Nat.div_one, List.range'_succ, List.range'_zero, List.forIn_cons, List.forIn_nil]
  cases g0 : (a0 == b0) with
  | false =>
    have e : ¬ a0 = b0 := by simpa using g0
    subst hx
    rw [decide_eq_false (fun h => e (by simp only [h]))]
    go_simp
  | true =>
  obtain rfl : a0 = b0 := by simpa using g0
  cases g1 : (a1 == b1) with
  | false =>
    have e : ¬ a1 = b1 := by simpa using g1
    subst hx
    rw [decide_eq_false (fun h => e (by simp only [h]))]
    go_simp
  | true =>
  obtain rfl : a1 = b1 := by simpa using g1
  cases g2 : (a2 == b2) with
  | false =>
    have e : ¬ a2 = b2 := by simpa using g2
    subst hx
    rw [decide_eq_false (fun h => e (by simp only [h]))]
    go_simp
  | true =>
  obtain rfl : a2 = b2 := by simpa using g2
  cases g3 : (a3 == b3) with
  | false =>
    have e : ¬ a3 = b3 := by simpa using g3
    subst hx
    rw [decide_eq_false (fun h => e (by simp only [h]))]
    go_simp
  | true =>
  obtain rfl : a3 = b3 := by simpa using g3
  subst hx
  go_simp
theorem run_eqC4 (a0 a1 a2 a3 b0 b1 b2 b3 : Int) (w : World) (x : Bool) (hx : decide (a0 = b0 ∧ a1 = b1 ∧ a2 = b2 ∧ a3 = b3) = x) : (binOp .eql 34 (C4 a0 a1 a2 a3) (C4 b0 b1 b2 b3)).run Try.prog w = .ok (.bool x) w := by
  rw [run_eql_struct, eqC4 a0 a1 a2 a3 b0 b1 b2 b3 w x hx]
  simp [Result.andThen]
theorem run_neC4 (a0 a1 a2 a3 b0 b1 b2 b3 : Int) (w : World) (x : Bool) (hx : decide (a0 = b0 ∧ a1 = b1 ∧ a2 = b2 ∧ a3 = b3) = x) : (binOp .neq 34 (C4 a0 a1 a2 a3) (C4 b0 b1 b2 b3)).run Try.prog w = .ok (.bool (!x)) w := by
  rw [run_neq_struct, eqC4 a0 a1 a2 a3 b0 b1 b2 b3 w x hx]
  simp [Result.andThen]

end Go.Proofs.Ytnkblihdgfhcdaa
