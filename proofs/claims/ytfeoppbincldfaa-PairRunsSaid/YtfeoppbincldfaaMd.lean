/- The product of two ints by a third one, rounded, by package wide: what MulDiv and Held answer. -/
import Derived.Test.YtfeoppbincldfaaMulDiv
namespace Go.Proofs.Ytfeoppbincldfaa
open Go.RowKit

def mdN (a b : Int) : Nat := a.natAbs * b.natAbs
def mdQ (a b c round : Int) : Nat :=
  mdN a b / c.natAbs + (if goes ((mdN a b / c.natAbs : Nat) : Int) ((mdN a b % c.natAbs : Nat) : Int) (c.natAbs : Int) (neg a b c) round = true then 1 else 0)
def mdOver (a b c round : Int) : Bool :=
  if neg a b c = true then decide (9223372036854775808 < mdQ a b c round) else decide (9223372036854775807 < mdQ a b c round)
def mdE (a b c round : Int) : Int :=
  if round < 0 ∨ 2 < round then 1 else if c = 0 then 11 else if mdOver a b c round = true then 10 else 0
def mdV (a b c round : Int) : Int :=
  if round < 0 ∨ 2 < round then 0 else if c = 0 then 0 else if mdOver a b c round = true then 0 else if neg a b c = true then -(mdQ a b c round : Int) else (mdQ a b c round : Int)

def In64 (a : Int) : Prop := -9223372036854775808 ≤ a ∧ a < 9223372036854775808

theorem wMulDiv_zero (a b A B P1 P0 round : Int) (h : 0 ≤ round ∧ round ≤ 2)
    (HSa : RetQ 102 #[.int .i64 a] (.int .u64 A)) (HSb : RetQ 102 #[.int .i64 b] (.int .u64 B)) (HSc : RetQ 102 #[.int .i64 0] (.int .u64 0))
    (HM : Ret 103 #[.int .u64 A, .int .u64 B] (.agg #[.int .u64 P1, .int .u64 P0])) (w : World) :
    Calls Try.prog 89 #[.int .i64 a, .int .i64 b, .int .i64 0, .int .i64 round] w fun e w' =>
      e = .returned (.tuple #[.int .i64 0, .int .i64 11]) ∧ Below w.heap.size w w' := by
  have hr : round = 0 ∨ round = 1 ∨ round = 2 := by omega
  have HD : Ret 104 #[.agg #[.int .u64 P1, .int .u64 P0], .int .u64 0] (.tuple #[.agg #[.int .u64 0, .int .u64 0], .int .u64 0, .int .i64 11]) := fun w => wDiv_zero P1 P0 w
  rcases hr with rfl | rfl | rfl
  all_goals
    go_enter Try.func89, Try.ntmps89
    go_wp2_with (first
      | (go_at_call 102; (with_reducible refine (HSa.go _).mono ?_); rintro e w' ⟨rfl, rfl⟩)
      | (go_at_call 102; (with_reducible refine (HSb.go _).mono ?_); rintro e w' ⟨rfl, rfl⟩)
      | (go_at_call 102; (with_reducible refine (HSc.go _).mono ?_); rintro e w' ⟨rfl, rfl⟩)
      | (go_at_call 103; (with_reducible refine (HM.go _).mono ?_); rintro e w1 ⟨rfl, hb1⟩)
      | (go_at_call 104; (with_reducible refine (HD.go _).mono ?_); rintro e w2 ⟨rfl, hb2⟩))
    go_ret2
    exact ⟨rfl, bAl (bTr hb1 hb2) _⟩

theorem size_ret {a : Int} (h : In64 a) : RetQ 102 #[.int .i64 a] (.int .u64 (a.natAbs : Int)) := fun w => wSize a h.1 h.2 w
theorem mul_ret {a b : Int} (ha : In64 a) (hb : In64 b) : Ret 103 #[.int .u64 (a.natAbs : Int), .int .u64 (b.natAbs : Int)]
    (.agg #[.int .u64 (((mdN a b / 18446744073709551616 : Nat)) : Int), .int .u64 ((mdN a b % 18446744073709551616 : Nat) : Int)]) := fun w => by
  unfold In64 at ha hb
  refine (wMul (a.natAbs : Int) (b.natAbs : Int) (by omega) (by omega) (by omega) (by omega) w).mono fun e w' h => ⟨h.1.trans (ret_eq (agg2_eq ?_ ?_)), h.2⟩
  · unfold mdN; rw [← Int.natCast_mul]; omega
  · unfold mdN; rw [← Int.natCast_mul]; omega

theorem mdN_le {a b : Int} (ha : In64 a) (hb : In64 b) : mdN a b ≤ 85070591730234615865843651857942052864 := by
  unfold In64 at ha hb
  have : a.natAbs * b.natAbs ≤ 9223372036854775808 * 9223372036854775808 := Nat.mul_le_mul (by omega) (by omega)
  exact this

/-- The quotient in two words. -/
theorem div_words (n d : Nat) (hd : 0 < d) :
    n / 18446744073709551616 / d * 18446744073709551616 + (n / 18446744073709551616 % d * 18446744073709551616 + n % 18446744073709551616) / d = n / d ∧
    (n / 18446744073709551616 % d * 18446744073709551616 + n % 18446744073709551616) % d = n % d := by
  have h1 := Nat.div_add_mod (n / 18446744073709551616) d
  have h2 : n = (n / 18446744073709551616 % d * 18446744073709551616 + n % 18446744073709551616) + d * (n / 18446744073709551616 / d * 18446744073709551616) := by
    rw [← Nat.mul_assoc]; omega
  constructor
  · conv => rhs; rw [h2]
    rw [Nat.add_mul_div_left _ _ hd]; omega
  · conv => rhs; rw [h2]
    rw [Nat.add_mul_mod_self_left]

theorem div_ret {n d : Nat} (hn : n < 340282366920938463463374607431768211456) (hd : 0 < d) (hd2 : d < 18446744073709551616) :
    Ret 104 #[.agg #[.int .u64 ((n / 18446744073709551616 : Nat) : Int), .int .u64 ((n % 18446744073709551616 : Nat) : Int)], .int .u64 (d : Int)]
      (.tuple #[.agg #[.int .u64 ((n / d / 18446744073709551616 : Nat) : Int), .int .u64 ((n / d % 18446744073709551616 : Nat) : Int)], .int .u64 ((n % d : Nat) : Int), .int .i64 0]) := fun w => by
  obtain ⟨e1, e2⟩ := div_words n d hd
  have hlt : (n / 18446744073709551616 % d * 18446744073709551616 + n % 18446744073709551616) / d < 18446744073709551616 := by
    have := Nat.mod_lt (n / 18446744073709551616) hd
    apply Nat.div_lt_of_lt_mul
    have h3 : (n / 18446744073709551616 % d + 1) * 18446744073709551616 ≤ d * 18446744073709551616 := Nat.mul_le_mul_right _ this
    omega
  have g1 : n / 18446744073709551616 / d = n / d / 18446744073709551616 ∧ (n / 18446744073709551616 % d * 18446744073709551616 + n % 18446744073709551616) / d = n / d % 18446744073709551616 := by
    generalize n / d = q at *
    generalize n / 18446744073709551616 / d = x at *
    generalize (n / 18446744073709551616 % d * 18446744073709551616 + n % 18446744073709551616) / d = y at *
    omega
  refine (wDiv ((n / 18446744073709551616 : Nat) : Int) ((n % 18446744073709551616 : Nat) : Int) (d : Int) (by omega) (by omega) (by omega) (by omega) (by omega) (by omega) w).mono fun e w' h => ⟨h.1.trans (ret_eq ?_), h.2⟩
  have f1 : (((n / 18446744073709551616 : Nat) : Int) / (d : Int)) = ((n / d / 18446744073709551616 : Nat) : Int) := by
    rw [← Int.natCast_ediv, g1.1]
  have f2 : ((((n / 18446744073709551616 : Nat) : Int) % (d : Int) * 18446744073709551616 + ((n % 18446744073709551616 : Nat) : Int)) / (d : Int)) = ((n / d % 18446744073709551616 : Nat) : Int) := by
    rw [← Int.natCast_emod, show (((n / 18446744073709551616 % d : Nat) : Int) * 18446744073709551616 + ((n % 18446744073709551616 : Nat) : Int)) = ((n / 18446744073709551616 % d * 18446744073709551616 + n % 18446744073709551616 : Nat) : Int) from by omega, ← Int.natCast_ediv, g1.2]
  have f3 : ((((n / 18446744073709551616 : Nat) : Int) % (d : Int) * 18446744073709551616 + ((n % 18446744073709551616 : Nat) : Int)) % (d : Int)) = ((n % d : Nat) : Int) := by
    rw [← Int.natCast_emod, show (((n / 18446744073709551616 % d : Nat) : Int) * 18446744073709551616 + ((n % 18446744073709551616 : Nat) : Int)) = ((n / 18446744073709551616 % d * 18446744073709551616 + n % 18446744073709551616 : Nat) : Int) from by omega, ← Int.natCast_emod, e2]
  rw [f1, f2, f3]

theorem goes_lo (x y l d : Int) (below : Bool) (round : Int) (h : x % 2 = y % 2) : goes x l d below round = goes y l d below round := by
  unfold goes; rw [h]

theorem signed_ret (q : Nat) (below : Bool) (hq : q < 340282366920938463463374607431768211456) :
    Ret 109 #[.agg #[.int .u64 ((q / 18446744073709551616 : Nat) : Int), .int .u64 ((q % 18446744073709551616 : Nat) : Int)], .bool below]
      (.tuple #[.int .i64 (if (if below = true then decide (9223372036854775808 < q) else decide (9223372036854775807 < q)) = true then 0 else if below = true then -(q : Int) else (q : Int)),
        .int .i64 (if (if below = true then decide (9223372036854775808 < q) else decide (9223372036854775807 < q)) = true then 10 else 0)]) := fun w => by
  cases below
  · rcases Nat.lt_or_ge 9223372036854775807 q with h | h
    · have := wSigned_over_false ((q / 18446744073709551616 : Nat) : Int) ((q % 18446744073709551616 : Nat) : Int) (by omega) w
      simpa [h] using this
    · have e1 : q / 18446744073709551616 = 0 := by omega
      have e2 : q % 18446744073709551616 = q := by omega
      have h' : ¬ 9223372036854775807 < q := by omega
      rw [e1, e2]
      rcases Nat.lt_or_ge q 9223372036854775807 with h3 | h3
      · have := wSigned_lt_false (q : Int) (by omega) (by omega) w
        simpa [h'] using this
      · have e3 : q = 9223372036854775807 := by omega
        have := wSigned_eq_false w
        subst e3
        simpa using this
  · rcases Nat.lt_or_ge 9223372036854775808 q with h | h
    · have := wSigned_over_true ((q / 18446744073709551616 : Nat) : Int) ((q % 18446744073709551616 : Nat) : Int) (by omega) w
      simpa [h] using this
    · have e1 : q / 18446744073709551616 = 0 := by omega
      have e2 : q % 18446744073709551616 = q := by omega
      have h' : ¬ 9223372036854775808 < q := by omega
      rw [e1, e2]
      rcases Nat.lt_or_ge q 9223372036854775808 with h3 | h3
      · have := wSigned_lt_true (q : Int) (by omega) (by omega) w
        simpa [h'] using this
      · have e3 : q = 9223372036854775808 := by omega
        have := wSigned_eq_true w
        subst e3
        simpa using this

theorem mulDiv_ret {a b c : Int} (round : Int) (ha : In64 a) (hb : In64 b) (hc : In64 c) :
    Ret 89 #[.int .i64 a, .int .i64 b, .int .i64 c, .int .i64 round] (.tuple #[.int .i64 (mdV a b c round), .int .i64 (mdE a b c round)]) := fun w => by
  by_cases hr : round < 0 ∨ 2 < round
  · have := wMulDiv_arg a b c round hr w
    simpa [mdV, mdE, hr] using this
  have hr2 : 0 ≤ round ∧ round ≤ 2 := by omega
  have hn := mdN_le ha hb
  by_cases hz : c = 0
  · subst hz
    have h0 : RetQ 102 #[.int .i64 0] (.int .u64 0) := size_ret hc
    have := wMulDiv_zero a b _ _ _ _ round hr2 (size_ret ha) (size_ret hb) h0 (mul_ret ha hb) w
    simpa [mdV, mdE, hr] using this
  have hd : 0 < c.natAbs := by omega
  have hd2 : c.natAbs < 18446744073709551616 := by unfold In64 at hc; omega
  have hq : mdN a b / c.natAbs ≤ mdN a b := Nat.div_le_self _ _
  have hl := Nat.mod_lt (mdN a b) hd
  have HB : RetQ 105 #[.int .i64 a, .int .i64 b, .int .i64 c] (.bool (neg a b c)) := fun w => wIsBelow a b c w
  have HG : Ret 106 #[.agg #[.int .u64 ((mdN a b / c.natAbs / 18446744073709551616 : Nat) : Int), .int .u64 ((mdN a b / c.natAbs % 18446744073709551616 : Nat) : Int)], .int .u64 ((mdN a b % c.natAbs : Nat) : Int), .int .u64 (c.natAbs : Int), .bool (neg a b c), .int .i64 round]
      (.bool (goes ((mdN a b / c.natAbs : Nat) : Int) ((mdN a b % c.natAbs : Nat) : Int) (c.natAbs : Int) (neg a b c) round)) := fun w => by
    rw [goes_lo ((mdN a b / c.natAbs : Nat) : Int) ((mdN a b / c.natAbs % 18446744073709551616 : Nat) : Int) _ _ _ _ (by omega)]
    exact wGoes _ _ _ _ round _ (by omega) (by omega) (by omega) (by omega) w
  cases hg : goes ((mdN a b / c.natAbs : Nat) : Int) ((mdN a b % c.natAbs : Nat) : Int) (c.natAbs : Int) (neg a b c) round
  · rw [hg] at HG
    have e : mdQ a b c round = mdN a b / c.natAbs := by unfold mdQ; rw [hg]; simp
    have := wMulDiv_no a b c _ _ _ round _ _ _ _ _ _ _ (neg a b c) hr2 (size_ret ha) (size_ret hb) (size_ret hc) (mul_ret ha hb) (div_ret (by omega) hd hd2) HB HG (signed_ret _ _ (by omega)) w
    rw [← e] at this
    simpa [mdV, mdE, mdOver, hr, hz] using this
  · rw [hg] at HG
    have e : mdQ a b c round = mdN a b / c.natAbs + 1 := by unfold mdQ; rw [hg]; simp
    have HO : Ret 108 #[.int .u64 1] (.agg #[.int .u64 0, .int .u64 1]) := fun w => wOf 1 w
    have HA : Ret 107 #[.agg #[.int .u64 ((mdN a b / c.natAbs / 18446744073709551616 : Nat) : Int), .int .u64 ((mdN a b / c.natAbs % 18446744073709551616 : Nat) : Int)], .agg #[.int .u64 0, .int .u64 1]]
        (.tuple #[.agg #[.int .u64 (((mdN a b / c.natAbs + 1) / 18446744073709551616 : Nat) : Int), .int .u64 (((mdN a b / c.natAbs + 1) % 18446744073709551616 : Nat) : Int)], .int .i64 0]) := fun w => by
      clear HB HG e hg hl
      generalize mdN a b / c.natAbs = q at *
      refine (wAdd_ok ((q / 18446744073709551616 : Nat) : Int) ((q % 18446744073709551616 : Nat) : Int) 0 1 (by omega) (by omega) (by omega) (by omega) (by omega) (by omega) (by omega) (by omega) (by omega) w).mono fun e w' h => ⟨h.1.trans (ret_eq ?_), h.2⟩
      rw [agg2_eq (k := .u64) (j := .u64) (c := (((q + 1) / 18446744073709551616 : Nat) : Int)) (d := (((q + 1) % 18446744073709551616 : Nat) : Int)) (by omega) (by omega)]
    have := wMulDiv_yes a b c _ _ _ round _ _ _ _ _ _ _ _ _ _ (neg a b c) hr2 (size_ret ha) (size_ret hb) (size_ret hc) (mul_ret ha hb) (div_ret (by omega) hd hd2) HB HG HO HA (signed_ret _ _ (by omega)) w
    rw [← e] at this
    simpa [mdV, mdE, mdOver, hr, hz] using this

end Go.Proofs.Ytfeoppbincldfaa
