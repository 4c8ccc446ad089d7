/- RateTurns: turned round twice a right rate is what it was, but for one part. -/
import Derived.Test.YtfohfpeeghnocabROf
import Derived.Test.YtfohfpeeghnocabBtw
namespace Go.Proofs.Ytfohfpeeghnocab
open Go.RowKit

theorem turns_not (r : Int) (H0 : Ret 10 #[] (.bool true)) (HC : Ret 14 #[.int .i64 r] (.int .i64 50)) (w : World) :
    Calls Try.prog 8 #[.int .i64 r] w fun e w' => e = .returned (.bool true) ∧ Below w.heap.size w w' := by
  have HH := bRef w
  go_enter Try.func8, Try.ntmps8
  go_wp2_with (first
    | (go_at_call 10; (with_reducible refine (H0.go _).mono ?_); rintro e wx ⟨rfl, hb⟩; (first | replace HH := bTr HH hb | replace HH := bTr (bDr HH _) hb); clear hb)
    | (go_at_call 14; (with_reducible refine (HC.go _).mono ?_); rintro e wx ⟨rfl, hb⟩; (first | replace HH := bTr HH hb | replace HH := bTr (bDr HH _) hb); clear hb))
  go_ret
  exact ⟨rfl, HH⟩
set_option maxHeartbeats 1000000 in
theorem turns_go (r y z v : Int) (H0 : Ret 10 #[] (.bool true)) (HC : Ret 14 #[.int .i64 r] (.int .i64 0))
    (H1 : Ret 26 #[.int .i64 r] (.tuple #[.int .i64 y, .int .i64 0])) (H2 : Ret 26 #[.int .i64 y] (.tuple #[.int .i64 z, .int .i64 0]))
    (H3 : Ret 24 #[.int .i64 r, .int .i64 y] (.tuple #[.int .i64 v, .int .i64 0]))
    (hz : wrap64 (z - r) = z - r) (hz1 : decide (-1 ≤ z - r) = true) (hz2 : decide (z - r ≤ 1) = true) (hv : wrap64 (v - 2199023255552) = v - 2199023255552) (hv1 : decide (-1 ≤ v - 2199023255552) = true) (hv2 : decide (v - 2199023255552 ≤ 1) = true) (w : World) :
    Calls Try.prog 8 #[.int .i64 r] w fun e w' => e = .returned (.bool true) ∧ Below w.heap.size w w' := by
  have HH := bRef w
  go_enter Try.func8, Try.ntmps8
  go_wp2_with (first
    | (go_at_call 10; (with_reducible refine (H0.go _).mono ?_); rintro e wx ⟨rfl, hb⟩; (first | replace HH := bTr HH hb | replace HH := bTr (bDr HH _) hb); clear hb)
    | (go_at_call 14; (with_reducible refine (HC.go _).mono ?_); rintro e wx ⟨rfl, hb⟩; (first | replace HH := bTr HH hb | replace HH := bTr (bDr HH _) hb); clear hb)
    | (go_at_call 26; (with_reducible refine (H1.go _).mono ?_); rintro e wx ⟨rfl, hb⟩; (first | replace HH := bTr HH hb | replace HH := bTr (bDr HH _) hb); clear hb)
    | (go_at_call 26; (with_reducible refine (H2.go _).mono ?_); rintro e wx ⟨rfl, hb⟩; (first | replace HH := bTr HH hb | replace HH := bTr (bDr HH _) hb); clear hb)
    | (go_at_call 24; (with_reducible refine (H3.go _).mono ?_); rintro e wx ⟨rfl, hb⟩; (first | replace HH := bTr HH hb | replace HH := bTr (bDr HH _) hb); clear hb))
  go_ret
  exact ⟨by simp, HH⟩

theorem turns_walk (r : Int) (h1 : -9223372036854775808 ≤ r) (h2 : r < 9223372036854775808) (w : World) :
    Calls Try.prog 8 #[.int .i64 r] w fun e w' => e = .returned (.bool true) ∧ Below w.heap.size w w' := by
  have HC := rCheck_ret r
  by_cases hR : Right r
  · rw [if_pos hR] at HC
    obtain ⟨y1, y2, y3, y4, y5⟩ := inv_near r hR
    have H1 := rInv_ret (a := r) ⟨h1, h2⟩
    rw [y5] at H1
    generalize rV 2199023255552 2199023255552 r = y at *
    unfold Right at hR
    have yl : 2100000000000 ≤ y := by
      refine Int.not_lt.1 fun h => ?_
      have := Int.mul_le_mul_of_nonneg_right (show y ≤ 2100000000000 by omega) (show 0 ≤ r by omega)
      omega
    have yu : y ≤ 2300000000000 := by
      refine Int.not_lt.1 fun h => ?_
      have := Int.mul_le_mul_of_nonneg_right (show 2300000000000 ≤ y by omega) (show 0 ≤ r by omega)
      omega
    obtain ⟨z, z0, z1, z2, z3⟩ := near_nn 2199023255552 2199023255552 y (by omega) (by omega) (by omega)
    have zl : z - r ≤ 1 := by
      refine Int.not_lt.1 fun h => ?_
      have := Int.mul_le_mul_of_nonneg_right (show r + 2 ≤ z by omega) (show 0 ≤ y by omega)
      rw [Int.add_mul, Int.mul_comm r y] at this
      omega
    have zu : -1 ≤ z - r := by
      refine Int.not_lt.1 fun h => ?_
      have := Int.mul_le_mul_of_nonneg_right (show z ≤ r - 2 by omega) (show 0 ≤ y by omega)
      rw [Int.sub_mul, Int.mul_comm r y] at this
      omega
    obtain ⟨ze, zv⟩ := z3 (by omega)
    have H2 := rInv_ret (a := y) ⟨by omega, by omega⟩
    rw [ze, zv] at H2
    obtain ⟨v, v0, v1, v2, v3⟩ := near_nn r y 2199023255552 (by omega) (by omega) (by omega)
    rw [Int.mul_comm r y] at v1 v2
    obtain ⟨ve, vv⟩ := v3 (by omega)
    have H3 := rMul_ret (a := r) (b := y) ⟨h1, h2⟩ ⟨by omega, by omega⟩
    rw [ve, vv] at H3
    exact turns_go r y z v made_ret HC H1 H2 H3 (IntWalk.wrap64_in _ ⟨by omega, by omega⟩) (decide_eq_true zu) (decide_eq_true zl) (IntWalk.wrap64_in _ ⟨by omega, by omega⟩) (decide_eq_true (by omega)) (decide_eq_true (by omega)) w
  · rw [if_neg hR] at HC
    exact turns_not r made_ret HC w

end Go.Proofs.Ytfohfpeeghnocab
