/- Products and quotients of the reference, rounded down: sums and grains of times. -/
import Derived.Test.YtffjbngelapmmaaGStamp
namespace Go.Proofs.Ytffjbngelapmmaa
open Go.RowKit

theorem goes_none (x c : Int) (b : Bool) (round : Int) : goes x 0 c b round = false := by unfold goes; rw [if_pos rfl]

/-- The product itself. -/
theorem md_one {a b : Int} (hb : 0 < b) : mdV a b 1 0 = fitV (a * b) ∧ mdE a b 1 0 = fitE (a * b) := by
  have hn : neg a b 1 = decide (a < 0) := by
    unfold neg
    rw [decide_eq_false (show ¬ b < 0 by omega), decide_eq_false (show ¬ (1 : Int) < 0 by omega)]; simp
  have hQ : mdQ a b 1 0 = mdN a b := by
    unfold mdQ
    rw [show (1 : Int).natAbs = 1 from rfl, Nat.div_one, Nat.mod_one, show (((0 : Nat) : Int)) = 0 from rfl, goes_none]
    simp
  have hN : ((mdN a b : Nat) : Int) = if a < 0 then -(a * b) else a * b := by
    unfold mdN
    rw [Int.natCast_mul]
    split
    · rw [show ((a.natAbs : Nat) : Int) = -a by omega, show ((b.natAbs : Nat) : Int) = b by omega, Int.neg_mul]
    · rw [show ((a.natAbs : Nat) : Int) = a by omega, show ((b.natAbs : Nat) : Int) = b by omega]
  have hsign : a < 0 → a * b < 0 := fun h => Int.mul_neg_of_neg_of_pos h hb
  have hsign2 : ¬ a < 0 → 0 ≤ a * b := fun h => Int.mul_nonneg (by omega) (by omega)
  have h1 : ¬ ((0 : Int) < 0 ∨ (2 : Int) < 0) := by omega
  have h2 : ¬ (1 : Int) = 0 := by omega
  unfold mdV mdE mdOver
  rw [if_neg h1, if_neg h2, if_neg h1, if_neg h2, hn, hQ]
  generalize a * b = p at *
  generalize mdN a b = n at *
  unfold fitV fitE
  by_cases ha : a < 0
  · rw [if_pos ha] at hN
    have := hsign ha
    rw [decide_eq_true ha, if_pos rfl, if_pos rfl]
    cases h : InB p
    · have hf := inB_false h
      rw [decide_eq_true (show 9223372036854775808 < n by omega)]; simp
    · have ht := inB_true h
      unfold In64 at ht
      rw [decide_eq_false (show ¬ 9223372036854775808 < n by omega)]; simp; omega
  · rw [if_neg ha] at hN
    have := hsign2 ha
    rw [decide_eq_false ha]
    cases h : InB p
    · have hf := inB_false h
      simp; omega
    · have ht := inB_true h
      unfold In64 at ht
      simp; omega

/-- The quotient, rounded down. -/
theorem md_floor {a c : Int} (ha : In64 a) (hc : 0 < c) : mdV a 1 c 0 = a / c ∧ mdE a 1 c 0 = 0 := by
  unfold In64 at ha
  have hn : neg a 1 c = decide (a < 0) := by
    unfold neg
    rw [decide_eq_false (show ¬ c < 0 by omega), decide_eq_false (show ¬ (1 : Int) < 0 by omega)]; simp
  have hN : mdN a 1 = a.natAbs := by unfold mdN; rw [show (1 : Int).natAbs = 1 from rfl, Nat.mul_one]
  have h1 : ¬ ((0 : Int) < 0 ∨ (2 : Int) < 0) := by omega
  have h2 : ¬ c = 0 := by omega
  obtain ⟨d, hd⟩ : ∃ d : Nat, (d : Int) = c := ⟨c.natAbs, by omega⟩
  have hd0 : 0 < d := by omega
  have hda : c.natAbs = d := by omega
  have hdm := Nat.div_add_mod a.natAbs d
  have hlt := Nat.mod_lt a.natAbs hd0
  have hle : a.natAbs / d ≤ d * (a.natAbs / d) := Nat.le_mul_of_pos_left _ hd0
  have hQ : mdQ a 1 c 0 = a.natAbs / d + (if a < 0 ∧ a.natAbs % d ≠ 0 then 1 else 0) := by
    unfold mdQ goes
    rw [hN, hda, hn]
    by_cases hz : a.natAbs % d = 0
    · rw [hz]; simp
    · rw [if_neg (show ¬ ((a.natAbs % d : Nat) : Int) = 0 by omega), if_pos rfl]
      by_cases hneg : a < 0 <;> simp [hneg, hz]
  have hcd : (c : Int) * ((a.natAbs / d : Nat) : Int) = ((d * (a.natAbs / d) : Nat) : Int) := by rw [Int.natCast_mul, hd]
  have hval : (if a < 0 then -((mdQ a 1 c 0 : Nat) : Int) else ((mdQ a 1 c 0 : Nat) : Int)) = a / c := by
    rw [hQ]
    generalize a.natAbs / d = q at *
    generalize a.natAbs % d = r at *
    by_cases hneg : a < 0
    · rw [if_pos hneg]
      by_cases hz : r = 0
      · subst hz
        rw [if_neg (by omega)]
        refine ((Int.ediv_emod_unique hc (r := 0) (q := -((q + 0 : Nat) : Int))).2 ⟨?_, by omega, hc⟩).1.symm
        rw [Nat.add_zero, Int.mul_neg, hcd]; omega
      · rw [if_pos ⟨hneg, hz⟩]
        refine ((Int.ediv_emod_unique hc (r := c - r) (q := -((q + 1 : Nat) : Int))).2 ⟨?_, by omega, by omega⟩).1.symm
        rw [Int.mul_neg, Int.natCast_add, Int.mul_add, hcd]; omega
    · rw [if_neg hneg, if_neg (by omega)]
      refine ((Int.ediv_emod_unique hc (r := r) (q := ((q + 0 : Nat) : Int))).2 ⟨?_, by omega, by omega⟩).1.symm
      rw [Nat.add_zero, hcd]; omega
  have hov : mdOver a 1 c 0 = false := by
    unfold mdOver
    rw [hn, hQ]
    by_cases hneg : a < 0
    · rw [decide_eq_true hneg, if_pos rfl, decide_eq_false_iff_not]
      split <;> omega
    · rw [decide_eq_false hneg, if_neg (by simp), decide_eq_false_iff_not, if_neg (by omega)]
      omega
  constructor
  · unfold mdV
    rw [if_neg h1, if_neg h2, hov, if_neg (by simp), hn, ← hval]
    simp only [decide_eq_true_eq]
  · unfold mdE
    rw [if_neg h1, if_neg h2, hov, if_neg (by simp)]

/-- A product parted by the same. -/
theorem md_self {a c : Int} (ha : In64 a) (hc : 0 < c) : mdV a c c 2 = a ∧ mdE a c c 2 = 0 := by
  unfold In64 at ha
  have hn : neg a c c = decide (a < 0) := by
    unfold neg
    rw [decide_eq_false (show ¬ c < 0 by omega)]; simp
  have h1 : ¬ ((2 : Int) < 0 ∨ (2 : Int) < 2) := by omega
  have h2 : ¬ c = 0 := by omega
  have hQ : mdQ a c c 2 = a.natAbs := by
    unfold mdQ mdN
    rw [Nat.mul_mod_left, show (((0 : Nat) : Int)) = 0 from rfl, goes_none, Nat.mul_div_cancel _ (by omega)]
    simp
  unfold mdV mdE mdOver
  rw [if_neg h1, if_neg h2, if_neg h1, if_neg h2, hn, hQ]
  by_cases hneg : a < 0
  · rw [decide_eq_true hneg, if_pos rfl, decide_eq_false (by omega)]; simp; omega
  · rw [decide_eq_false hneg]; simp; omega
theorem md_comm (a b c round : Int) : mdV a b c round = mdV b a c round ∧ mdE a b c round = mdE b a c round := by
  have hn : neg a b c = neg b a c := by
    unfold neg
    cases decide (a < 0) <;> cases decide (b < 0) <;> rfl
  have hN : mdN a b = mdN b a := Nat.mul_comm _ _
  have hQ : mdQ a b c round = mdQ b a c round := by unfold mdQ; rw [hN, hn]
  have hO : mdOver a b c round = mdOver b a c round := by unfold mdOver; rw [hn, hQ]
  unfold mdV mdE
  rw [hO, hQ, hn]
  exact ⟨rfl, rfl⟩

theorem refTimes_ret {a b : Int} (ha : In64 a) (hb : In64 b) (hb0 : 0 < b) : Ret 35 #[.int .i64 a, .int .i64 b, .int .i64 1, .int .i64 0] (Fit (a * b)) := by
  have H := refmd_ret (a := a) (b := b) (c := 1) 0 ha hb ⟨by omega, by omega⟩
  rw [(md_one hb0).1, (md_one hb0).2] at H
  exact H
theorem refDown_ret {a c : Int} (ha : In64 a) (hc : In64 c) (hc0 : 0 < c) : Ret 35 #[.int .i64 a, .int .i64 1, .int .i64 c, .int .i64 0] (.tuple #[.int .i64 (a / c), .int .i64 0]) := by
  have H := refmd_ret (a := a) (b := 1) (c := c) 0 ha ⟨by omega, by omega⟩ hc
  rw [(md_floor ha hc0).1, (md_floor ha hc0).2] at H
  exact H

end Go.Proofs.Ytffjbngelapmmaa
