/- Floats of 64 bits by their rungs: how two of them stand to each other. -/
import Derived.WalkLawsBesides
import Derived.Laws.BitsAllLaws
namespace Go.Proofs.Ytfohfpeeghnocab

/-- What is below the sign. -/
def rung (b : Nat) : Nat := b % 9223372036854775808
def srung (b : Nat) : Int := if 9223372036854775808 ≤ b then -((rung b : Nat) : Int) else ((rung b : Nat) : Int)
/-- So often the least float above nought. -/
def val (r : Nat) : Nat := if r < 4503599627370496 then r else (4503599627370496 + r % 4503599627370496) * 2 ^ (r / 4503599627370496 - 1)
def Fin64 (b : Nat) : Prop := b < 18446744073709551616 ∧ rung b < 9218868437227405312

theorem val_step (r : Nat) : val r < val (r + 1) := by
  unfold val
  by_cases h : r + 1 < 4503599627370496
  · rw [if_pos (by omega), if_pos h]; omega
  by_cases h2 : r < 4503599627370496
  · have e : r + 1 = 4503599627370496 := by omega
    rw [if_pos h2, e]
    simp; omega
  rw [if_neg h2, if_neg h]
  by_cases h3 : (r + 1) % 4503599627370496 = 0
  · have e1 : (r + 1) / 4503599627370496 - 1 = (r / 4503599627370496 - 1) + 1 := by omega
    rw [h3, e1, Nat.pow_succ]
    have hp := Nat.two_pow_pos (r / 4503599627370496 - 1)
    have h5 := Nat.mod_lt r (show 0 < 4503599627370496 by omega)
    generalize 2 ^ (r / 4503599627370496 - 1) = p at *
    rw [Nat.add_zero, Nat.mul_comm p 2, ← Nat.mul_assoc]
    exact Nat.mul_lt_mul_of_pos_right (by omega) hp
  · have e1 : (r + 1) / 4503599627370496 = r / 4503599627370496 := by omega
    rw [e1]
    exact Nat.mul_lt_mul_of_pos_right (by omega) (Nat.two_pow_pos _)

theorem val_lt {r s : Nat} (h : r < s) : val r < val s := by
  induction s with
  | zero => omega
  | succ s ih =>
    rcases Nat.lt_succ_iff_lt_or_eq.1 h with h | h
    · exact Nat.lt_trans (ih h) (val_step s)
    · subst h; exact val_step r

theorem val_lt_iff {r s : Nat} : val r < val s ↔ r < s := by
  constructor
  · intro h
    refine Nat.not_le.1 fun hh => ?_
    rcases Nat.lt_or_eq_of_le hh with h2 | h2
    · have := val_lt h2; omega
    · subst h2; omega
  · exact val_lt

theorem read_fin {b : Nat} (h : Fin64 b) : ∃ (m : Nat) (j : Nat), Ieee.double.read b = .number (decide (9223372036854775808 ≤ b)) m ((j : Int) - 1074) ∧ m * 2 ^ j = val (rung b) ∧
    (m = if rung b < 4503599627370496 then rung b else 4503599627370496 + b % 4503599627370496) ∧ (j = if rung b < 4503599627370496 then 0 else rung b / 4503599627370496 - 1) := by
  obtain ⟨h1, h2⟩ := h
  unfold rung at *
  have hs : (b / 9223372036854775808 % 2 == 1) = decide (9223372036854775808 ≤ b) := by
    by_cases hh : 9223372036854775808 ≤ b
    · rw [decide_eq_true hh]; simp; omega
    · rw [decide_eq_false hh]; simp; omega
  have hw : Ieee.double.signWeight = 9223372036854775808 := by decide
  have hb : Ieee.double.binade = 4503599627370496 := by decide
  have hi : Ieee.double.infRung = 9218868437227405312 := by decide
  have hl : Ieee.double.leastPlace = -1074 := by decide
  unfold Ieee.Format.read val
  rw [hw, hb, hi, hl]
  dsimp only
  rw [hs]
  by_cases h3 : b % 9223372036854775808 < 4503599627370496
  · rw [if_pos h3, if_pos h3, if_pos h3, if_pos h3]
    exact ⟨_, 0, rfl, by simp, rfl, rfl⟩
  · rw [if_neg h3, if_pos h2, if_neg h3, if_neg h3, if_neg h3]
    have e : b % 9223372036854775808 % 4503599627370496 = b % 4503599627370496 := Nat.mod_mod_of_dvd _ ⟨2048, rfl⟩
    rw [e]
    refine ⟨4503599627370496 + b % 4503599627370496, b % 9223372036854775808 / 4503599627370496 - 1, ?_, rfl, rfl, rfl⟩
    congr 1

theorem signed_val (s : Bool) (m j base : Nat) (h : base ≤ j) : Ieee.signed s m (((j : Int) - 1074) - ((base : Int) - 1074)).toNat * ((2 ^ base : Nat) : Int) = if s then -((m * 2 ^ j : Nat) : Int) else ((m * 2 ^ j : Nat) : Int) := by
  have e : (((j : Int) - 1074) - ((base : Int) - 1074)).toNat = j - base := by omega
  have e2 : m <<< (j - base) * 2 ^ base = m * 2 ^ j := by
    rw [Nat.shiftLeft_eq, Nat.mul_assoc, ← Nat.pow_add]
    congr 2; omega
  unfold Ieee.signed
  rw [e, ← e2]
  cases s
  · simp
  · simp [Int.neg_mul]

theorem compare_scale (a b : Int) (p : Nat) (hp : 0 < p) : compare a b = compare (a * (p : Int)) (b * (p : Int)) := by
  have hp' : (0 : Int) < p := by omega
  rcases Int.lt_trichotomy a b with h | h | h
  · have h2 := Int.mul_lt_mul_of_pos_right h hp'
    rw [Int.compare_eq_lt.2 h, Int.compare_eq_lt.2 h2]
  · subst h; simp
  · have h2 := Int.mul_lt_mul_of_pos_right h hp'
    rw [Int.compare_eq_gt.2 h, Int.compare_eq_gt.2 h2]

def sval (b : Nat) : Int := if decide (9223372036854775808 ≤ b) then -((val (rung b) : Nat) : Int) else ((val (rung b) : Nat) : Int)

theorem order_val {x y : Nat} (hx : Fin64 x) (hy : Fin64 y) : Ieee.double.order x y = some (compare (sval x) (sval y)) := by
  obtain ⟨m, i, e1, e2, _⟩ := read_fin hx
  obtain ⟨n, j, e3, e4, _⟩ := read_fin hy
  unfold Ieee.Format.order
  rw [e1, e3]
  unfold Ieee.Datum.order
  dsimp only
  congr 1
  have hm : min ((i : Int) - 1074) ((j : Int) - 1074) = ((min i j : Nat) : Int) - 1074 := by omega
  rw [hm, compare_scale _ _ (2 ^ min i j) (Nat.two_pow_pos _), signed_val _ _ _ _ (by omega), signed_val _ _ _ _ (by omega), e2, e4]
  rfl

theorem sval_lt {x y : Nat} : sval x < sval y ↔ srung x < srung y := by
  have h1 := @val_lt_iff (rung x) (rung y)
  have h2 := @val_lt_iff (rung y) (rung x)
  have hx : val (rung x) = 0 ↔ rung x = 0 := by
    have := @val_lt_iff 0 (rung x)
    have e : val 0 = 0 := rfl
    omega
  have hy : val (rung y) = 0 ↔ rung y = 0 := by
    have := @val_lt_iff 0 (rung y)
    have e : val 0 = 0 := rfl
    omega
  unfold sval srung
  generalize rung x = r at *
  generalize rung y = s at *
  by_cases h3 : 9223372036854775808 ≤ x <;> by_cases h4 : 9223372036854775808 ≤ y <;> simp [h3, h4] <;> omega

theorem compare_eq_of (a b c d : Int) (h1 : a < b ↔ c < d) (h2 : b < a ↔ d < c) : compare a b = compare c d := by
  rcases Int.lt_trichotomy c d with h | h | h
  · rw [Int.compare_eq_lt.2 h, Int.compare_eq_lt.2 (h1.2 h)]
  · have : a = b := by omega
    rw [h, this]; simp
  · rw [Int.compare_eq_gt.2 h, Int.compare_eq_gt.2 (h2.2 h)]

theorem order_fin {x y : Nat} (hx : Fin64 x) (hy : Fin64 y) : Ieee.double.order x y = some (compare (srung x) (srung y)) := by
  rw [order_val hx hy, compare_eq_of _ _ _ _ sval_lt sval_lt]

theorem order_lt {x y : Nat} (hx : Fin64 x) (hy : Fin64 y) : (Ieee.double.order x y == some .lt) = decide (srung x < srung y) := by
  rw [order_fin hx hy]
  rcases Int.lt_trichotomy (srung x) (srung y) with h | h | h
  · rw [Int.compare_eq_lt.2 h, decide_eq_true h]; rfl
  · rw [h, decide_eq_false (by omega)]; simp
  · rw [Int.compare_eq_gt.2 h, decide_eq_false (by omega)]; rfl
theorem order_gt {x y : Nat} (hx : Fin64 x) (hy : Fin64 y) : (Ieee.double.order x y == some .gt) = decide (srung y < srung x) := by
  rw [order_fin hx hy]
  rcases Int.lt_trichotomy (srung x) (srung y) with h | h | h
  · rw [Int.compare_eq_lt.2 h, decide_eq_false (by omega)]; rfl
  · rw [h, decide_eq_false (by omega)]; simp
  · rw [Int.compare_eq_gt.2 h, decide_eq_true h]; rfl
theorem order_eq {x y : Nat} (hx : Fin64 x) (hy : Fin64 y) : (Ieee.double.order x y == some .eq) = decide (srung x = srung y) := by
  rw [order_fin hx hy]
  rcases Int.lt_trichotomy (srung x) (srung y) with h | h | h
  · rw [Int.compare_eq_lt.2 h, decide_eq_false (by omega)]; rfl
  · rw [h, decide_eq_true rfl]; simp
  · rw [Int.compare_eq_gt.2 h, decide_eq_false (by omega)]; rfl

/-- The negative of a float. -/
theorem neg_bits {b : Nat} (h : b < 18446744073709551616) : Op.negFloat .f64 b = if 9223372036854775808 ≤ b then b - 9223372036854775808 else b + 9223372036854775808 := by
  have e : Op.negFloat .f64 b = b ^^^ 2 ^ 63 := rfl
  rw [e]
  have h1 : (b ^^^ 2 ^ 63) % 2 ^ 63 = b % 2 ^ 63 := by rw [Nat.xor_mod_two_pow]; simp
  have h2 : (b ^^^ 2 ^ 63) / 2 ^ 63 = (b / 2 ^ 63) ^^^ 1 := by rw [Nat.xor_div_two_pow]
  have h3 := Nat.div_add_mod (b ^^^ 2 ^ 63) (2 ^ 63)
  rw [h1, h2] at h3
  rw [← h3]
  by_cases hh : 9223372036854775808 ≤ b
  · have e : b / 2 ^ 63 = 1 := by omega
    rw [e, if_pos hh]; simp; omega
  · have e : b / 2 ^ 63 = 0 := by omega
    rw [e, if_neg hh]; simp; omega

theorem srung_neg {b : Nat} (h : b < 18446744073709551616) : srung (Op.negFloat .f64 b) = -srung b := by
  rw [neg_bits h]
  unfold srung rung
  split
  · rw [if_neg (by omega)]; omega
  · rw [if_pos (by omega)]; omega
theorem neg_lt {b : Nat} (h : b < 18446744073709551616) : Op.negFloat .f64 b < 18446744073709551616 := by
  rw [neg_bits h]; split <;> omega
theorem rung_neg {b : Nat} (h : b < 18446744073709551616) : rung (Op.negFloat .f64 b) = rung b := by
  rw [neg_bits h]; unfold rung; split <;> omega

end Go.Proofs.Ytfohfpeeghnocab
