/- Plain arithmetic: one digit of a quotient, by the two upper halves (no program is named here). -/
namespace Go.Proofs.Ytfeoppbincldfaa
namespace Kn

theorem quo_first {Y U d : Int} (hU : 0 ≤ U) (hUY : U < Y) (hY : 9223372036854775808 ≤ Y) (hd : 0 ≤ d) (hd2 : d < 4294967296) :
    (U * 4294967296 + d) / Y ≤ U / (Y / 4294967296) ∧ U / (Y / 4294967296) ≤ 4294967297 ∧ 0 ≤ U / (Y / 4294967296) := by
  have hy : 2147483648 ≤ Y / 4294967296 := by omega
  have e : Y = Y / 4294967296 * 4294967296 + Y % 4294967296 := by omega
  have hm0 : 0 ≤ Y % 4294967296 := by omega
  have hm1 : Y % 4294967296 < 4294967296 := by omega
  generalize Y / 4294967296 = y1 at *
  generalize Y % 4294967296 = y0 at *
  have hq := Int.mul_ediv_add_emod U y1
  have hr := Int.emod_lt_of_pos U (show 0 < y1 by omega)
  have hr0 := Int.emod_nonneg U (show y1 ≠ 0 by omega)
  have hq0 : 0 ≤ U / y1 := Int.ediv_nonneg hU (by omega)
  refine ⟨?_, ?_, hq0⟩
  · have : (U * 4294967296 + d) / Y < U / y1 + 1 := by
      apply Int.ediv_lt_of_lt_mul (by omega)
      have h1 : (U / y1 + 1) * Y = y1 * (U / y1) * 4294967296 + U / y1 * y0 + Y := by
        rw [Int.add_mul, Int.one_mul]
        conv => lhs; lhs; rw [e]
        rw [Int.mul_add, ← Int.mul_assoc, Int.mul_comm (U / y1) y1]
      have h2 : 0 ≤ U / y1 * y0 := Int.mul_nonneg hq0 hm0
      rw [h1]
      omega
    omega
  · have : U / y1 < 4294967298 := by
      apply Int.ediv_lt_of_lt_mul (by omega)
      omega
    omega

theorem quo_yes {Y U d q r : Int} (hUY : U < Y) (hY : 0 < Y) (hd2 : d < 4294967296)
    (hq : q * (Y / 4294967296) + r = U) (h : 4294967296 ≤ q ∨ 4294967296 * r + d < q * (Y % 4294967296)) :
    (U * 4294967296 + d) / Y ≤ q - 1 := by
  have e : Y = Y / 4294967296 * 4294967296 + Y % 4294967296 := by omega
  have : (U * 4294967296 + d) / Y < q := by
    rcases h with h | h
    · have : (U * 4294967296 + d) / Y < 4294967296 := Int.ediv_lt_of_lt_mul hY (by omega)
      omega
    · apply Int.ediv_lt_of_lt_mul hY
      have h1 : q * Y = q * (Y / 4294967296) * 4294967296 + q * (Y % 4294967296) := by
        conv => lhs; rw [e]
        rw [Int.mul_add, ← Int.mul_assoc]
      omega
  omega

theorem quo_no {Y U d q r : Int} (hY : 0 < Y) (hq : q * (Y / 4294967296) + r = U) (h : q * (Y % 4294967296) ≤ 4294967296 * r + d)
    (hle : (U * 4294967296 + d) / Y ≤ q) : q = (U * 4294967296 + d) / Y := by
  have e : Y = Y / 4294967296 * 4294967296 + Y % 4294967296 := by omega
  have : q ≤ (U * 4294967296 + d) / Y := by
    apply Int.le_ediv_of_mul_le hY
    have h1 : q * Y = q * (Y / 4294967296) * 4294967296 + q * (Y % 4294967296) := by
      conv => lhs; rw [e]
      rw [Int.mul_add, ← Int.mul_assoc]
    omega
  omega

/-- Where the rest has passed the half, the digit is small enough. -/
theorem small_enough {Y d q r : Int} (hd : 0 ≤ d) (hq : q ≤ 4294967296) (hr : 4294967296 ≤ r) : q * (Y % 4294967296) ≤ 4294967296 * r + d := by
  have h1 : q * (Y % 4294967296) ≤ 4294967296 * 4294967295 := Int.mul_le_mul hq (by omega) (by omega) (by omega)
  omega

theorem less {q y0 : Int} (h0 : 0 ≤ q) (hq : q < 4294967296) (h1 : 0 ≤ y0) (h2 : y0 < 4294967296) : 0 ≤ q * y0 ∧ q * y0 < 18446744073709551616 := by
  have h3 : q * y0 ≤ 4294967295 * 4294967295 := Int.mul_le_mul (by omega) (by omega) (by omega) (by omega)
  exact ⟨Int.mul_nonneg h0 h1, by omega⟩

/-- What is left, though each step of it wraps. -/
theorem left_eq {Y U d q : Int} (hY : 0 < Y) (hY2 : Y < 18446744073709551616) (hq : q = (U * 4294967296 + d) / Y) :
    ((U * 4294967296 % 18446744073709551616 + d) % 18446744073709551616 - q * Y % 18446744073709551616) % 18446744073709551616 = (U * 4294967296 + d) % Y := by
  have h1 := Int.mul_ediv_add_emod (U * 4294967296 + d) Y
  have h2 := Int.emod_lt_of_pos (U * 4294967296 + d) hY
  have h3 := Int.emod_nonneg (U * 4294967296 + d) (show Y ≠ 0 by omega)
  rw [← hq, Int.mul_comm] at h1
  omega

theorem digits_lt {Y U d : Int} (hU : 0 ≤ U) (hUY : U < Y) (hd : 0 ≤ d) (hd2 : d < 4294967296) : 0 ≤ (U * 4294967296 + d) / Y ∧ (U * 4294967296 + d) / Y < 4294967296 :=
  ⟨Int.ediv_nonneg (by omega) (by omega), Int.ediv_lt_of_lt_mul (by omega) (by omega)⟩

/-- Two digits are the quotient. -/
theorem two_digits {Y U d1 d0 : Int} (hY : 0 < Y) :
    (U * 4294967296 + d1) / Y * 4294967296 + ((U * 4294967296 + d1) % Y * 4294967296 + d0) / Y = ((U * 4294967296 + d1) * 4294967296 + d0) / Y ∧
    ((U * 4294967296 + d1) % Y * 4294967296 + d0) % Y = ((U * 4294967296 + d1) * 4294967296 + d0) % Y := by
  have h1 := Int.mul_ediv_add_emod (U * 4294967296 + d1) Y
  generalize hq : (U * 4294967296 + d1) / Y = q1 at *
  generalize hr : (U * 4294967296 + d1) % Y = r1 at *
  have h2 : (U * 4294967296 + d1) * 4294967296 + d0 = (r1 * 4294967296 + d0) + Y * (q1 * 4294967296) := by
    rw [← Int.mul_assoc, ← h1]; omega
  rw [h2, Int.add_mul_ediv_left _ _ (by omega), Int.add_mul_emod_self_left]
  omega

end Kn
end Go.Proofs.Ytfeoppbincldfaa
