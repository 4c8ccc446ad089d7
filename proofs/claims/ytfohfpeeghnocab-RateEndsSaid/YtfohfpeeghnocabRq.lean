/- A quotient to the nearest whole number, of two as near to the even one; and a float's rate by it. -/
import Derived.Test.YtfohfpeeghnocabFlt
namespace Go.Proofs.Ytfohfpeeghnocab

def rUp (n d : Nat) : Bool := decide (d < n % d + n % d) || (decide (n % d + n % d = d) && decide (n / d % 2 = 1))
def rq (n d : Nat) : Nat := n / d + (if rUp n d = true then 1 else 0)

theorem rUp_scale (n d k : Nat) (hk : 0 < k) : rUp (n * k) (d * k) = rUp n d := by
  unfold rUp
  rw [Nat.mul_div_mul_right _ _ hk, Nat.mul_mod_mul_right, ← Nat.add_mul]
  have h1 : (d * k < (n % d + n % d) * k) ↔ d < n % d + n % d := ⟨fun h => Nat.lt_of_mul_lt_mul_right h, fun h => Nat.mul_lt_mul_of_pos_right h hk⟩
  have h2 : ((n % d + n % d) * k = d * k) ↔ n % d + n % d = d := ⟨fun h => Nat.eq_of_mul_eq_mul_right hk h, fun h => by rw [h]⟩
  rw [decide_eq_decide.2 h1, decide_eq_decide.2 h2]
theorem rq_scale (n d k : Nat) (hk : 0 < k) : rq (n * k) (d * k) = rq n d := by
  unfold rq
  rw [rUp_scale n d k hk, Nat.mul_div_mul_right _ _ hk]
theorem rq_small (n d : Nat) (h : n + n < d) : rq n d = 0 := by
  have e1 : n / d = 0 := Nat.div_eq_of_lt (by omega)
  have e2 : n % d = n := Nat.mod_eq_of_lt (by omega)
  unfold rq rUp
  rw [e1, e2, decide_eq_false (by omega), decide_eq_false (by omega)]; rfl
theorem rq_bounds (n d : Nat) (hd : 0 < d) : 2 * (rq n d * d) ≤ 2 * n + d ∧ 2 * n ≤ 2 * (rq n d * d) + d := by
  have h1 := Nat.div_add_mod n d
  have h2 := Nat.mod_lt n hd
  unfold rq rUp
  rw [Nat.mul_comm d] at h1
  generalize n / d = q at *
  generalize n % d = l at *
  by_cases h : d < l + l
  · rw [decide_eq_true h]; simp only [Bool.true_or, if_true]; rw [Nat.add_mul]; omega
  · rw [decide_eq_false h, Bool.false_or]
    by_cases h3 : l + l = d
    · split
      · rw [Nat.add_mul]; omega
      · rw [Nat.add_zero]; omega
    · rw [decide_eq_false h3]; simp; omega
theorem rq_mono (n m d : Nat) (hd : 0 < d) (h : n ≤ m) : rq n d ≤ rq m d := by
  have h1 := Nat.div_add_mod n d
  have h2 := Nat.mod_lt n hd
  have h3 := Nat.div_add_mod m d
  have h4 := Nat.mod_lt m hd
  have h5 : n / d ≤ m / d := Nat.div_le_div_right h
  unfold rq
  rcases Nat.lt_or_eq_of_le h5 with h6 | h6
  · split <;> omega
  · rw [h6] at h1 ⊢
    have h7 : n % d ≤ m % d := by omega
    unfold rUp
    rw [h6]
    by_cases h8 : d < n % d + n % d
    · rw [decide_eq_true h8, decide_eq_true (show d < m % d + m % d by omega)]; simp
    · rw [decide_eq_false h8]
      by_cases h9 : n % d + n % d = d
      · by_cases h10 : d < m % d + m % d
        · rw [decide_eq_true h10]; simp; split <;> omega
        · rw [show m % d = n % d by omega, decide_eq_false h8]; omega
      · rw [decide_eq_false h9]; simp

/-- So many twos are a float's least place, and a millionth's. -/
def k74 : Nat := 1074
def k39 : Nat := 1039
def k34 : Nat := 1034
theorem k39_eq : k39 = 5 + k34 := rfl
theorem k74_eq : k74 = 40 + k34 := rfl
theorem k39_at : k39 = 1039 := rfl
theorem k34_at : k34 = 1034 := rfl
theorem k74_at : k74 = 1074 := rfl

/-- So many parts of One are the float's millionths. -/
def off (b : Nat) : Nat := rq (val (rung b)) (15625 * 2 ^ k39)

theorem val_top : val 4662219572839972864 = 5497558138880000 * 2 ^ k34 := by
  have e1 : 4662219572839972864 / 4503599627370496 - 1 = k34 := by decide
  have e2 : 4503599627370496 + 4662219572839972864 % 4503599627370496 = 5497558138880000 := by decide
  unfold val
  rw [if_neg (by omega), e1, e2]
theorem val_zero : val 0 = 0 := rfl
theorem off_pos : 0 < 15625 * 2 ^ k39 := Nat.mul_pos (by omega) (Nat.two_pow_pos _)
theorem off_mono {x y : Nat} (h : rung x ≤ rung y) : off x ≤ off y := by
  refine rq_mono _ _ _ off_pos ?_
  rcases Nat.lt_or_eq_of_le h with h | h
  · exact Nat.le_of_lt (val_lt h)
  · rw [h]; exact Nat.le_refl _
theorem off_top : rq (val 4662219572839972864) (15625 * 2 ^ k39) = 10995116278 := by
  have e : (15625 * 2 ^ k39 : Nat) = (15625 * 32) * 2 ^ k34 := by
    rw [k39_eq, Nat.pow_add, ← Nat.mul_assoc]
  rw [val_top, e, rq_scale _ _ _ (Nat.two_pow_pos _)]
  decide
theorem off_le {b : Nat} (h : rung b ≤ 4662219572839972864) : off b ≤ 10995116278 := by
  rw [← off_top]
  refine rq_mono _ _ _ off_pos ?_
  rcases Nat.lt_or_eq_of_le h with h | h
  · exact Nat.le_of_lt (val_lt h)
  · rw [h]; exact Nat.le_refl _
theorem off_nought {b : Nat} (h : rung b = 0) : off b = 0 := by
  unfold off
  rw [h]
  exact rq_small _ _ (by rw [val_zero]; exact off_pos)

/-- By the float's own first bits, as package rate reckons. -/
theorem off_parts {b : Nat} (h1 : 4503599627370496 ≤ rung b) (h2 : rung b ≤ 4662219572839972864) :
    off b = rq (4503599627370496 + b % 4503599627370496) (15625 * 2 ^ (1040 - rung b / 4503599627370496)) := by
  have e : rung b % 4503599627370496 = b % 4503599627370496 := Nat.mod_mod_of_dvd _ ⟨2048, rfl⟩
  have hj : 1 ≤ rung b / 4503599627370496 ∧ rung b / 4503599627370496 ≤ 1035 := by omega
  unfold off val
  rw [if_neg (by omega), e]
  generalize rung b / 4503599627370496 = j at *
  have e2 : 15625 * 2 ^ k39 = 15625 * 2 ^ (1040 - j) * 2 ^ (j - 1) := by
    rw [Nat.mul_assoc, ← Nat.pow_add]; congr 2; unfold k39; omega
  rw [e2, rq_scale _ _ _ (Nat.two_pow_pos _)]

theorem pow_ge {a b : Nat} (h : a ≤ b) : 2 ^ a ≤ 2 ^ b := Nat.pow_le_pow_right (by omega) h

theorem off_tiny {b j : Nat} (h1 : j ≤ 1040) (h3 : rung b / 4503599627370496 = j) (h4 : 590295810358706 ≤ 2 ^ (1040 - j)) : off b = 0 := by
  rcases Nat.eq_zero_or_pos j with h0 | h0
  · subst h0
    unfold off val
    have : rung b < 4503599627370496 := by omega
    rw [if_pos this]
    refine rq_small _ _ ?_
    have := @pow_ge 60 k39 (by unfold k39; omega)
    have e : (2 : Nat) ^ 60 = 1152921504606846976 := by decide
    omega
  · unfold off val
    rw [if_neg (by omega), h3]
    have e2 : 15625 * 2 ^ k39 = 15625 * 2 ^ (1040 - j) * 2 ^ (j - 1) := by
      rw [Nat.mul_assoc, ← Nat.pow_add]; congr 2; unfold k39; omega
    rw [e2, rq_scale _ _ _ (Nat.two_pow_pos _)]
    refine rq_small _ _ ?_
    have := Nat.mod_lt (rung b) (show 0 < 4503599627370496 by omega)
    omega

end Go.Proofs.Ytfohfpeeghnocab
