/- Between clocks that run evenly: the rate and the delay that are found. -/
import Derived.Test.YtnfoimkiihfalaaPeHead
namespace Go.Proofs.Ytnfoimkiihfalaa
open Go.RowKit Go.Joins

/-- What the other clock tells, but for its start. -/
def tl (r ns : Int) : Int := rV r (ns * 65536) 2199023255552
/-- A rate near One. -/
def Near1 (r : Int) : Prop := 2198741780608 ≤ r ∧ r ≤ 2199302531473
theorem tl_near {r ns : Int} (hr : Near1 r) (h0 : 0 ≤ ns) (h1 : ns ≤ 30000000) : rE r (ns * 65536) 2199023255552 = 0 ∧ Nr r (ns * 65536) 2199023255552 (tl r ns) := by
  obtain ⟨r0, r1⟩ := hr
  refine rv_near (by omega) (by omega) (by omega) ?_
  have a1 : r * (ns * 65536) ≤ 2199302531473 * (ns * 65536) := Int.mul_le_mul_of_nonneg_right r1 (by omega)
  omega
theorem tl_le {r ns : Int} (hr : Near1 r) (h0 : 0 ≤ ns) (h1 : ns ≤ 30000000) : 0 ≤ tl r ns ∧ tl r ns ≤ 4398046511104 := by
  obtain ⟨_, h2, _, h3⟩ := tl_near hr h0 h1
  obtain ⟨r0, r1⟩ := hr
  have a1 : r * (ns * 65536) ≤ 2199302531473 * (ns * 65536) := Int.mul_le_mul_of_nonneg_right r1 (by omega)
  generalize r * (ns * 65536) = z at *
  omega
theorem tl_diff {r a b : Int} (hr : Near1 r) (h0 : 0 ≤ a) (hab : a ≤ b) (h1 : b ≤ 30000000) : 0 ≤ tl r b - tl r a ∧ 2 * ((tl r b - tl r a) * 2199023255552) ≤ 2 * (r * ((b - a) * 65536)) + 4398046511104 ∧ 2 * (r * ((b - a) * 65536)) - 4398046511104 ≤ 2 * ((tl r b - tl r a) * 2199023255552) := by
  obtain ⟨_, _, p1, p2⟩ := tl_near hr h0 (Int.le_trans hab h1)
  obtain ⟨_, _, q1, q2⟩ := tl_near hr (Int.le_trans h0 hab) h1
  obtain ⟨r0, r1⟩ := hr
  have e : r * ((b - a) * 65536) = r * (b * 65536) - r * (a * 65536) := by rw [← Int.mul_sub, Int.sub_mul]
  rcases Int.lt_or_le a b with hlt | hge
  · have a1 : 2198741780608 * ((b - a) * 65536) ≤ r * ((b - a) * 65536) := Int.mul_le_mul_of_nonneg_right r0 (by omega)
    rw [e] at a1 ⊢
    generalize r * (b * 65536) = z at *
    generalize r * (a * 65536) = y at *
    generalize tl r b = u at *
    generalize tl r a = v at *
    omega
  · obtain rfl : a = b := by omega
    rw [e]
    omega
/-- What is reckoned, and how near it is. -/
theorem finds_reck {r dl h g N st : Int} (hr : Near1 r) (d0 : 0 ≤ dl) (d1 : dl ≤ 4095) (h0 : 0 ≤ h) (h1 : h ≤ 65535) (g0 : 100000 ≤ g) (g1 : g ≤ 4594300) (n0 : 1000 ≤ N - g) (n1 : N ≤ 18400000) (s0 : 0 ≤ st) (s1 : st ≤ 16777215) :
    ∃ R I V B, Reck (tl r (N - g + dl + h) + st * 65536) ((N - g + 2 * dl + h) * 65536) (N * 65536) (tl r (N + dl) + st * 65536) (tl r (N + dl + h) + st * 65536) ((N + 2 * dl + h) * 65536) R I V B ∧ R ≤ r + 336 ∧ r ≤ R + 336 ∧ B ≤ 2 * (dl * 65536) + 3 ∧ 2 * (dl * 65536) - 3 ≤ B := by
  have hr' := hr
  obtain ⟨r0, r1⟩ := hr'
  obtain ⟨A0, A1, A2⟩ := tl_diff (a := N - g + dl + h) (b := N + dl + h) hr (by omega) (by omega) (by omega)
  obtain ⟨H0, H1, H2⟩ := tl_diff (a := N + dl) (b := N + dl + h) hr (by omega) (by omega) (by omega)
  have nx1 := (tl_near (ns := N - g + dl + h) hr (by omega) (by omega)).2
  have nx2 := (tl_near (ns := N + dl + h) hr (by omega) (by omega)).2
  have l1 := tl_le (ns := N - g + dl + h) hr (by omega) (by omega)
  have l2 := tl_le (ns := N + dl + h) hr (by omega) (by omega)
  have l3 := tl_le (ns := N + dl) hr (by omega) (by omega)
  have eB : (N + dl + h) * 65536 - (N - g + dl + h) * 65536 = g * 65536 := by omega
  rw [show N + dl + h - (N - g + dl + h) = g by omega] at A1 A2
  rw [show N + dl + h - (N + dl) = h by omega] at H1 H2
  generalize tl r (N + dl + h) = N2 at *
  generalize tl r (N - g + dl + h) = N1 at *
  generalize tl r (N + dl) = N3 at *
  obtain ⟨B, hB⟩ : ∃ B, g * 65536 = B := ⟨_, rfl⟩
  rw [hB] at A1 A2 eB
  have hB0 : 6553600000 ≤ B := by omega
  have hB1 : B ≤ 301092044800 := by omega
  -- how far they went
  have b1 : r * B ≤ 2199302531473 * B := Int.mul_le_mul_of_nonneg_right r1 (by omega)
  have hA2 : N2 - N1 ≤ 2 * B := by
    generalize r * B = z at *
    omega
  have hR := rv_near (a := N2 - N1) (b := 2199023255552) (c := B) A0 (by omega) (by omega) (by omega)
  have hRn := hR.2
  obtain ⟨R, eR⟩ : ∃ R, rV (N2 - N1) 2199023255552 B = R := ⟨_, rfl⟩
  rw [eR] at hRn
  obtain ⟨c1, c2⟩ := rate_close nx1 nx2 eB hRn
  have k1 : R ≤ r + 336 := gap_of hB0 (K := 4398046511104 + B) (by omega) (Int.le_refl _)
  have k2 : r ≤ R + 336 := gap_of hB0 (K := 4398046511104 + B) (by omega) (Int.le_refl _)
  have hRight : Right R := ⟨by omega, by omega⟩
  -- turned round
  have hI := rv_near (a := 2199023255552) (b := 2199023255552) (c := R) (by omega) (by omega) (by omega) (by omega)
  have hIn := hI.2
  obtain ⟨I, eI⟩ : ∃ I, rV 2199023255552 2199023255552 R = I := ⟨_, rfl⟩
  rw [eI] at hIn
  have hI4 : I ≤ 4398046511104 := by
    rcases Int.lt_or_le 4398046511104 I with q | q
    · have m := Int.mul_le_mul_of_nonneg_right (show 4398046511105 ≤ I by omega) (show 0 ≤ R by omega)
      have m2 := hIn.2.2
      generalize I * R = z at *
      omega
    · exact q
  have hI0 := hIn.1
  -- how long it stayed
  have b2 : r * (h * 65536) ≤ 2199302531473 * (h * 65536) := Int.mul_le_mul_of_nonneg_right r1 (by omega)
  have hH4 : N2 - N3 ≤ 8589934592 := by
    generalize r * (h * 65536) = z at *
    omega
  have b3 : I * (N2 - N3) ≤ 4398046511104 * 8589934592 := Int.mul_le_mul hI4 hH4 H0 (by omega)
  have hS := rv_near (a := I) (b := N2 - N3) (c := 2199023255552) hI0 H0 (by omega) (by omega)
  have hSn := hS.2
  obtain ⟨S, eS⟩ : ∃ S, rV I (N2 - N3) 2199023255552 = S := ⟨_, rfl⟩
  rw [eS] at hSn
  obtain ⟨v1, v2⟩ := stay_close (h := h * 65536) (by omega) (by omega) k1 k2 hIn (by omega) (by omega) H0 H1 H2 hSn
  refine ⟨R, I, S, (N + 2 * dl + h) * 65536 - N * 65536 - S, ⟨?_, ?_, ?_, ?_, ?_, ?_, ?_, hI.1, eI, ?_, ?_, ?_, ?_, ?_, rfl⟩, k1, k2, by omega, by omega⟩
  · unfold In64; omega
  · unfold In64; omega
  · rw [show N2 + st * 65536 - (N1 + st * 65536) = N2 - N1 by omega, show (N + 2 * dl + h) * 65536 - (N - g + 2 * dl + h) * 65536 = B by omega]
    unfold btE
    rw [if_neg (by omega), eR, if_neg (by rw [hR.1]; simp), if_pos hRight]
  · rw [show N2 + st * 65536 - (N1 + st * 65536) = N2 - N1 by omega, show (N + 2 * dl + h) * 65536 - (N - g + 2 * dl + h) * 65536 = B by omega]
    unfold btV
    rw [if_neg (by omega), eR, if_neg (by rw [hR.1]; simp), if_pos hRight]
  · unfold In64; omega
  · unfold In64; omega
  · unfold In64; omega
  · unfold In64; omega
  · rw [show N2 + st * 65536 - (N3 + st * 65536) = N2 - N3 by omega]; exact hS.1
  · rw [show N2 + st * 65536 - (N3 + st * 65536) = N2 - N3 by omega]; exact eS
  · unfold In64; omega
  · unfold In64; omega
theorem half_near {B dl : Int} (d0 : 0 ≤ dl) (d1 : dl ≤ 4095) (h1 : B ≤ 2 * (dl * 65536) + 3) (h2 : 2 * (dl * 65536) - 3 ≤ B) : -1048576 ≤ B ∧ max 0 (B.tdiv 2) ≤ 1099511627776 ∧ In64 B ∧ max 0 (B.tdiv 2) - dl * 65536 ≤ 2 ∧ -2 ≤ max 0 (B.tdiv 2) - dl * 65536 := by
  have : B.tdiv 2 = if 0 ≤ B ∨ 2 ∣ B then B / 2 else B / 2 + 1 := by
    have := Int.tdiv_eq_ediv (a := B) (b := 2)
    rw [this]
    split <;> simp
  rw [this]
  unfold In64
  split <;> omega

end Go.Proofs.Ytnfoimkiihfalaa
