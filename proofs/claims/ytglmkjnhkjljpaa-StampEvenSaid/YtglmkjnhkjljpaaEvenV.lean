/- A time by a rate and by its other way: how far it is from what it was. -/
import Derived.Test.YtglmkjnhkjljpaaLaws1
import Derived.Test.YtglmkjnhkjljpaaNearest
namespace Go.Proofs.Ytglmkjnhkjljpaa
open Go.RowKit

theorem even_vals {X r : Int} (hX0 : 0 ≤ X) (hX1 : X < 281474976710656) (hr0 : 2197897355776 ≤ r) (hr1 : r ≤ 2200146956305) :
    ∃ y q z : Int, In64 y ∧ In64 q ∧ -256 ≤ z - X ∧ z - X ≤ 256 ∧
      Ret 21 #[.int .i64 X, .int .i64 r] (.tuple #[.int .i64 y, .int .i64 0]) ∧
      Ret 25 #[.int .i64 r] (.tuple #[.int .i64 q, .int .i64 0]) ∧
      Ret 21 #[.int .i64 y, .int .i64 q] (.tuple #[.int .i64 z, .int .i64 0]) := by
  obtain ⟨y, y0, y1, y2, y3⟩ := near_nn r X 2199023255552 (by omega) hX0 (by omega)
  obtain ⟨q, q0, q1, q2, q3⟩ := near_nn 2199023255552 2199023255552 r (by omega) (by omega) (by omega)
  obtain ⟨z, z0, z1, z2, z3⟩ := near_nn q y 2199023255552 q0 y0 (by omega)
  have hC1 : r * X ≤ 2200146956305 * 281474976710656 := Int.mul_le_mul hr1 (by omega) hX0 (by omega)
  have hC0 : 0 ≤ r * X := Int.mul_nonneg (by omega) hX0
  have hq : q ≤ 4398046511104 := by
    refine Int.not_lt.1 fun h => ?_
    have := Int.mul_le_mul_of_nonneg_right (show 4398046511105 ≤ q by omega) (show 0 ≤ r by omega)
    omega
  have m1 := Int.mul_le_mul_of_nonneg_left y1 q0
  have m2 := Int.mul_le_mul_of_nonneg_left y2 q0
  have m3 := Int.mul_le_mul_of_nonneg_right q1 hX0
  have m4 := Int.mul_le_mul_of_nonneg_right q2 hX0
  have e1 : q * (2 * (y * 2199023255552)) = 2 * 2199023255552 * (q * y) := by
    rw [Int.mul_comm y, ← Int.mul_assoc 2, Int.mul_left_comm]
  have e2 : q * (2 * (r * X) - 2199023255552) = 2 * (q * (r * X)) - 2199023255552 * q := by
    rw [Int.mul_sub, Int.mul_left_comm, Int.mul_comm q 2199023255552]
  have e3 : q * (2 * (r * X) + 2199023255552) = 2 * (q * (r * X)) + 2199023255552 * q := by
    rw [Int.mul_add, Int.mul_left_comm, Int.mul_comm q 2199023255552]
  have e4 : (2 * (2199023255552 * 2199023255552) - r) * X = 2 * (2199023255552 * 2199023255552) * X - r * X := Int.sub_mul _ _ _
  have e5 : (2 * (2199023255552 * 2199023255552) + r) * X = 2 * (2199023255552 * 2199023255552) * X + r * X := Int.add_mul _ _ _
  have e6 : 2 * (q * r) * X = 2 * (q * (r * X)) := by rw [Int.mul_assoc, Int.mul_assoc]
  rw [e1, e2] at m1
  rw [e1, e3] at m2
  rw [e4, e6] at m3
  rw [e5, e6] at m4
  clear e1 e2 e3 e4 e5 e6
  obtain ⟨e7, e8⟩ := y3 (by omega)
  obtain ⟨e9, e10⟩ := q3 (by omega)
  have hy : y ≤ 281757000000000 := by omega
  clear y3 q3
  generalize q * (r * X) = E at *
  generalize r * X = C at *
  generalize q * y = A at *
  generalize q * r = B at *
  have d1 : -256 ≤ z - X := by omega
  have d2 : z - X ≤ 256 := by omega
  obtain ⟨e11, e12⟩ := z3 (by omega)
  refine ⟨y, q, z, ⟨by omega, by omega⟩, ⟨by omega, by omega⟩, d1, d2, ?_, ?_, ?_⟩
  · have := by_ret (s := X) (r := r) ⟨by omega, by omega⟩ ⟨by omega, by omega⟩
    rw [e7, e8] at this
    exact this
  · have := rInv_ret (a := r) ⟨by omega, by omega⟩
    rw [e9, e10] at this
    exact this
  · have := by_ret (s := y) (r := q) ⟨by omega, by omega⟩ ⟨by omega, by omega⟩
    rw [e11, e12] at this
    exact this

end Go.Proofs.Ytglmkjnhkjljpaa
