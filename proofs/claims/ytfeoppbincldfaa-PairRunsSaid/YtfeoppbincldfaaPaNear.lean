/- The quotient of whole numbers, to the nearest: the two bounds by which it is known. -/
import Derived.Test.YtfeoppbincldfaaPaRate
namespace Go.Proofs.Ytfeoppbincldfaa
open Go.RowKit

theorem goes_near (x l c : Int) (hl0 : 0 ≤ l) (hl : l < c) : (goes x l c false 2 = true → c ≤ 2 * l ∧ 0 < l) ∧ (goes x l c false 2 = false → 2 * l ≤ c) := by
  unfold goes
  by_cases h0 : l = 0
  · simp [h0]; omega
  · rw [if_neg h0, if_neg (by omega), if_neg (by omega)]
    by_cases h : l = c - l
    · rw [if_pos h]; constructor <;> intro _ <;> omega
    · rw [if_neg h]; simp; omega

theorem near_nn (a b c : Int) (ha : 0 ≤ a) (hb : 0 ≤ b) (hc : 0 < c) :
    ∃ q : Int, 0 ≤ q ∧ 2 * (a * b) - c ≤ 2 * (q * c) ∧ 2 * (q * c) ≤ 2 * (a * b) + c ∧ (q ≤ 9223372036854775807 → rE a b c = 0 ∧ rV a b c = q) := by
  have hn : neg a b c = false := by
    unfold neg
    rw [decide_eq_false (show ¬ a < 0 by omega), decide_eq_false (show ¬ b < 0 by omega), decide_eq_false (show ¬ c < 0 by omega)]; rfl
  have hN : ((mdN a b : Nat) : Int) = a * b := by
    unfold mdN
    rw [Int.natCast_mul, Int.natAbs_of_nonneg ha, Int.natAbs_of_nonneg hb]
  have hcN : ((c.natAbs : Nat) : Int) = c := Int.natAbs_of_nonneg (by omega)
  have hd := Nat.div_add_mod (mdN a b) c.natAbs
  have hl := Nat.mod_lt (mdN a b) (show 0 < c.natAbs by omega)
  have hd' : c * ((mdN a b / c.natAbs : Nat) : Int) + ((mdN a b % c.natAbs : Nat) : Int) = a * b := by
    rw [← hN, ← hd, Int.natCast_add, Int.natCast_mul, hcN, hd]
  have hl3 : ((mdN a b % c.natAbs : Nat) : Int) < c := by omega
  have hl0 : 0 ≤ ((mdN a b % c.natAbs : Nat) : Int) := by omega
  have hg := goes_near ((mdN a b / c.natAbs : Nat) : Int) ((mdN a b % c.natAbs : Nat) : Int) c (by omega) (by omega)
  have hQ : ((mdQ a b c 2 : Nat) : Int) = ((mdN a b / c.natAbs : Nat) : Int) + (if goes ((mdN a b / c.natAbs : Nat) : Int) ((mdN a b % c.natAbs : Nat) : Int) c false 2 = true then 1 else 0) := by
    unfold mdQ
    rw [hn, hcN]
    split <;> simp
  refine ⟨(mdQ a b c 2 : Nat), by omega, ?_, ?_, ?_⟩
  rotate_right
  · intro hq
    have h1 : ¬ ((2 : Int) < 0 ∨ (2 : Int) < 2) := by omega
    have h2 : ¬ c = 0 := by omega
    have h3 : mdOver a b c 2 = false := by
      unfold mdOver
      rw [hn]; simp; omega
    constructor
    · unfold rE mdE
      rw [if_neg h1, if_neg h2, h3]; simp
    · unfold rV mdV
      rw [if_neg h1, if_neg h2, h3, hn]; simp
  all_goals
    rw [hQ]
    clear hl hd hQ hN
    generalize ((mdN a b / c.natAbs : Nat) : Int) = x at *
    generalize ((mdN a b % c.natAbs : Nat) : Int) = l at *
    rw [Int.mul_comm c x] at hd'
    cases hk : goes x l c false 2
    · have := hg.2 hk
      simp only [Bool.false_eq_true, if_false, Int.add_zero]
      omega
    · have := hg.1 hk
      simp only [if_true]
      rw [Int.add_mul, Int.one_mul]
      omega

end Go.Proofs.Ytfeoppbincldfaa
