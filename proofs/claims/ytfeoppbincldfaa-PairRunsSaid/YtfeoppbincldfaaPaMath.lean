/- Plain mathematics of clocks that run evenly: what is rounded, and how far that is off. -/
import Derived.Test.YtfeoppbincldfaaPaNear
namespace Go.Proofs.Ytfeoppbincldfaa
open Go.RowKit

/-- The nearest whole number to a times b by c. -/
def Nr (a b c q : Int) : Prop := 0 ≤ q ∧ 2 * (a * b) - c ≤ 2 * (q * c) ∧ 2 * (q * c) ≤ 2 * (a * b) + c
theorem rv_near {a b c : Int} (ha : 0 ≤ a) (hb : 0 ≤ b) (hc : 0 < c) (h : a * b ≤ 4611686018427387904 * c) : rE a b c = 0 ∧ Nr a b c (rV a b c) := by
  obtain ⟨q, h0, h1, h2, h3⟩ := near_nn a b c ha hb hc
  have hq : q ≤ 9223372036854775807 := by
    rcases Int.lt_or_le 9223372036854775807 q with g | g
    · have := Int.mul_le_mul_of_nonneg_right (show (9223372036854775808 : Int) ≤ q by omega) (Int.le_of_lt hc)
      generalize q * c = z at *
      omega
    · exact g
  obtain ⟨e1, e2⟩ := h3 hq
  rw [e2]
  exact ⟨e1, h0, h1, h2⟩
theorem nr_eq {a b c q : Int} (h : rE a b c = 0 ∧ Nr a b c (rV a b c)) (hq : rV a b c = q) : Nr a b c q := by rw [← hq]; exact h.2
/-- A rate that is found between two moments. -/
theorem rate_close {O r B N1 N2 X1 X2 R : Int} (h1 : Nr r X1 O N1) (h2 : Nr r X2 O N2) (hX : X2 - X1 = B) (hR : Nr (N2 - N1) O B R) : 2 * (R * B) ≤ 2 * (r * B) + 2 * O + B ∧ 2 * (r * B) - 2 * O - B ≤ 2 * (R * B) := by
  obtain ⟨_, a1, a2⟩ := h1
  obtain ⟨_, b1, b2⟩ := h2
  obtain ⟨_, c1, c2⟩ := hR
  have e1 : (N2 - N1) * O = N2 * O - N1 * O := Int.sub_mul _ _ _
  have e2 : r * B = r * X2 - r * X1 := by rw [← hX, Int.mul_sub]
  rw [e1] at c1 c2
  rw [e2]
  generalize N2 * O = p at *
  generalize N1 * O = q at *
  generalize r * X1 = y at *
  generalize r * X2 = z at *
  omega
theorem gap_of {R r B K : Int} (hB : 6553600000 ≤ B) (h : 2 * (R * B) ≤ 2 * (r * B) + K) (hK : K ≤ 4398046511104 + B) : R ≤ r + 336 := by
  rcases Int.lt_or_le (r + 336) R with g | g
  · have h1 : (r + 337) * B ≤ R * B := Int.mul_le_mul_of_nonneg_right (by omega) (by omega)
    rw [Int.add_mul] at h1
    generalize R * B = x at *
    generalize r * B = y at *
    omega
  · exact g
/-- How long the answer stayed, by the own clock. -/
theorem stay_close {r R I h H S : Int} (hr0 : 2198486384640 ≤ r) (hr1 : r ≤ 2199560126464) (k1 : R ≤ r + 336) (k2 : r ≤ R + 336) (hI : Nr 2199023255552 2199023255552 R I) (h0 : 0 ≤ h) (h1 : h ≤ 4294901760)
    (hH0 : 0 ≤ H) (hH1 : 2 * (H * 2199023255552) ≤ 2 * (r * h) + 4398046511104) (hH2 : 2 * (r * h) - 4398046511104 ≤ 2 * (H * 2199023255552)) (hS : Nr I H 2199023255552 S) : S ≤ h + 3 ∧ h - 3 ≤ S := by
  obtain ⟨i0, i1, i2⟩ := hI
  obtain ⟨s0, s1, s2⟩ := hS
  have hH4 : H ≤ 8589934592 := by
    have a1 : r * h ≤ 2199560126464 * h := Int.mul_le_mul_of_nonneg_right hr1 h0
    omega
  -- times R
  have m1 : H * (2 * (I * R)) ≤ H * (2 * (2199023255552 * 2199023255552) + R) := Int.mul_le_mul_of_nonneg_left (by omega) hH0
  have m2 : H * (2 * (2199023255552 * 2199023255552) - R) ≤ H * (2 * (I * R)) := Int.mul_le_mul_of_nonneg_left (by omega) hH0
  have m3 : (2 * (S * 2199023255552)) * R ≤ (2 * (I * H) + 2199023255552) * R := Int.mul_le_mul_of_nonneg_right s2 (by omega)
  have m4 : (2 * (I * H) - 2199023255552) * R ≤ (2 * (S * 2199023255552)) * R := Int.mul_le_mul_of_nonneg_right s1 (by omega)
  have m5 : H * R ≤ 8589934592 * R := Int.mul_le_mul_of_nonneg_right hH4 (by omega)
  have m6 : 0 ≤ H * R := Int.mul_nonneg hH0 (by omega)
  have m7 : h * r ≤ h * (R + 336) := Int.mul_le_mul_of_nonneg_left k2 h0
  have m8 : h * (R - 336) ≤ h * r := Int.mul_le_mul_of_nonneg_left (by omega) h0
  have e1 : H * (2 * (I * R)) = 2 * (I * H * R) := by grind
  have e2 : (2 * (I * H) + 2199023255552) * R = 2 * (I * H * R) + 2199023255552 * R := by grind
  have e3 : (2 * (I * H) - 2199023255552) * R = 2 * (I * H * R) - 2199023255552 * R := by grind
  have e4 : (2 * (S * 2199023255552)) * R = 4398046511104 * (S * R) := by grind
  have e5 : H * (2 * (2199023255552 * 2199023255552) + R) = 9671406556917033397649408 * H + H * R := by grind
  have e6 : H * (2 * (2199023255552 * 2199023255552) - R) = 9671406556917033397649408 * H - H * R := by grind
  have e7 : h * (R + 336) = h * R + 336 * h := by grind
  have e8 : h * (R - 336) = h * R - 336 * h := by grind
  have e9 : r * h = h * r := Int.mul_comm _ _
  rw [e1, e5] at m1
  rw [e1, e6] at m2
  rw [e2, e4] at m3
  rw [e3, e4] at m4
  rw [e7] at m7
  rw [e8] at m8
  rw [e9] at hH1 hH2
  clear e1 e2 e3 e4 e5 e6 e7 e8 e9 i1 i2 s1 s2
  generalize I * H * R = P at *
  generalize H * R = Q at *
  generalize h * r = Y at *
  have up : S * R ≤ h * R + 7 * R := by
    generalize S * R = Z at *
    generalize h * R = V at *
    omega
  have dn : h * R - 7 * R ≤ S * R := by
    generalize S * R = Z at *
    generalize h * R = V at *
    omega
  have u2 : 2 * (S * R) ≤ 2 * (h * R) + 7 * R := by
    generalize S * R = Z at *
    generalize h * R = V at *
    omega
  have d2 : 2 * (h * R) - 7 * R ≤ 2 * (S * R) := by
    generalize S * R = Z at *
    generalize h * R = V at *
    omega
  clear up dn m1 m2 m3 m4 m5 m6 m7 m8
  constructor
  · rcases Int.lt_or_le (h + 3) S with g | g
    · have := Int.mul_le_mul_of_nonneg_right (show h + 4 ≤ S by omega) (show 0 ≤ R by omega)
      rw [Int.add_mul] at this
      generalize S * R = Z at *
      generalize h * R = V at *
      omega
    · exact g
  · rcases Int.lt_or_le S (h - 3) with g | g
    · have := Int.mul_le_mul_of_nonneg_right (show S + 4 ≤ h by omega) (show 0 ≤ R by omega)
      rw [Int.add_mul] at this
      generalize S * R = Z at *
      generalize h * R = V at *
      omega
    · exact g

end Go.Proofs.Ytfeoppbincldfaa
