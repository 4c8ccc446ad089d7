/- WideBack: what was multiplied and then parted by the same is what it was; turned signs turn the answer. -/
import Derived.Test.YtfohfpeeghnocaaNear
namespace Go.Proofs.Ytfohfpeeghnocaa
open Go.RowKit

theorem back_skip (a b : Int) (h : (b == 0) = true ∨ ((b == 0) = false ∧ (a == -9223372036854775808) = true) ∨ ((b == 0) = false ∧ (a == -9223372036854775808) = false ∧ (b == -9223372036854775808) = true)) (w : World) :
    Calls Try.prog 8 #[.int .i64 a, .int .i64 b] w fun e w' => e = .returned (.bool true) ∧ Below w.heap.size w w' := by
  have H0 := head_ret
  rcases h with h | ⟨h1, h2⟩ | ⟨h1, h2, h3⟩
  all_goals
    have HH := St.start w
    go_enter Try.func8, Try.ntmps8
    go_wp2_with ((go_at_call 26; (with_reducible refine (H0.go _).mono ?_); rintro e wx ⟨rfl, hb⟩; (first | replace HH := HH.call hb | replace HH := HH.drew.call hb | replace HH := (HH.drewN _).call hb); clear hb))
    go_ret
    exact ⟨rfl, HH.below⟩

set_option maxHeartbeats 1000000 in
theorem back_some (a b na nb : Int) (h1 : (b == 0) = false) (h2 : (a == -9223372036854775808) = false) (h3 : (b == -9223372036854775808) = false)
    (ea : IntKind.i64.wrap (-a) = na) (eb : IntKind.i64.wrap (-b) = nb)
    (H1 : Ret 27 #[.int .i64 a, .int .i64 b, .int .i64 b, .int .i64 0] (.tuple #[.int .i64 a, .int .i64 0]))
    (H2 : Ret 27 #[.int .i64 na, .int .i64 b, .int .i64 b, .int .i64 1] (.tuple #[.int .i64 na, .int .i64 0]))
    (H3 : Ret 27 #[.int .i64 a, .int .i64 nb, .int .i64 b, .int .i64 2] (.tuple #[.int .i64 na, .int .i64 0]))
    (w : World) :
    Calls Try.prog 8 #[.int .i64 a, .int .i64 b] w fun e w' => e = .returned (.bool true) ∧ Below w.heap.size w w' := by
  have H0 := head_ret
  have HH := St.start w
  go_enter Try.func8, Try.ntmps8
  go_wp2_with (first
    | (go_at_call 26; (with_reducible refine (H0.go _).mono ?_); rintro e wx ⟨rfl, hb⟩; (first | replace HH := HH.call hb | replace HH := HH.drew.call hb | replace HH := (HH.drewN _).call hb); clear hb)
    | (go_at_call 27; (with_reducible refine (H1.go _).mono ?_); rintro e wx ⟨rfl, hb⟩; (first | replace HH := HH.call hb | replace HH := HH.drew.call hb | replace HH := (HH.drewN _).call hb); clear hb)
    | (go_at_call 27; (with_reducible refine (H2.go _).mono ?_); rintro e wx ⟨rfl, hb⟩; (first | replace HH := HH.call hb | replace HH := HH.drew.call hb | replace HH := (HH.drewN _).call hb); clear hb)
    | (go_at_call 27; (with_reducible refine (H3.go _).mono ?_); rintro e wx ⟨rfl, hb⟩; (first | replace HH := HH.call hb | replace HH := HH.drew.call hb | replace HH := (HH.drewN _).call hb); clear hb))
  go_ret
  exact ⟨rfl, HH.below⟩

/-- By the same number: nothing is left. -/
theorem md_same (a b c round : Int) (ha : -9223372036854775808 < a ∧ a < 9223372036854775808) (hc : c ≠ 0) (hbc : b.natAbs = c.natAbs) (hr : 0 ≤ round ∧ round ≤ 2) :
    mdE a b c round = 0 ∧ mdV a b c round = if neg a b c = true then -(a.natAbs : Int) else (a.natAbs : Int) := by
  have h0 : 0 < c.natAbs := by omega
  have e1 : mdN a b / c.natAbs = a.natAbs := by unfold mdN; rw [hbc]; exact Nat.mul_div_cancel _ h0
  have e2 : mdN a b % c.natAbs = 0 := by unfold mdN; rw [hbc]; exact Nat.mul_mod_left _ _
  have hk := mdK_zero a b c round e2
  have := md_cases a b c round hc hr
  rw [e1, hk] at this
  rcases this with ⟨n, _, e, v⟩ | ⟨n, _, e, v⟩ | ⟨e, v, x, y⟩
  · rw [n, e, v]; simp
  · rw [n, e, v]; simp
  · cases hn : neg a b c
    · have := y hn; omega
    · have := x hn; omega

theorem back_walk (a b : Int) (ha1 : -9223372036854775808 ≤ a) (ha2 : a < 9223372036854775808) (hb1 : -9223372036854775808 ≤ b) (hb2 : b < 9223372036854775808) (w : World) :
    Calls Try.prog 8 #[.int .i64 a, .int .i64 b] w fun e w' => e = .returned (.bool true) ∧ Below w.heap.size w w' := by
  cases h1 : (b == 0)
  · cases h2 : (a == -9223372036854775808)
    · cases h3 : (b == -9223372036854775808)
      · have g1 : b ≠ 0 := beq_eq_false_iff_ne.1 h1
        have g2 : a ≠ -9223372036854775808 := beq_eq_false_iff_ne.1 h2
        have g3 : b ≠ -9223372036854775808 := beq_eq_false_iff_ne.1 h3
        have m1 := md_same a b b 0 (by omega) g1 rfl (by omega)
        have m2 := md_same (-a) b b 1 (by omega) g1 rfl (by omega)
        have m3 := md_same a (-b) b 2 (by omega) g1 (by omega) (by omega)
        have n1 : (if neg a b b = true then -(a.natAbs : Int) else (a.natAbs : Int)) = a := by
          unfold neg
          by_cases x : a < 0 <;> by_cases y : b < 0 <;> simp [x, y] <;> omega
        have n2 : (if neg (-a) b b = true then -((-a).natAbs : Int) else ((-a).natAbs : Int)) = -a := by
          unfold neg
          by_cases x : -a < 0 <;> by_cases y : b < 0 <;> simp only [x, y] <;> simp <;> omega
        have n3 : (if neg a (-b) b = true then -(a.natAbs : Int) else (a.natAbs : Int)) = -a := by
          unfold neg
          by_cases x : a < 0 <;> by_cases y : b < 0 <;> by_cases z : -b < 0 <;> simp only [x, y, z] <;> simp <;> omega
        have H1 := mulDiv_ret (a := a) (b := b) (c := b) 0 ⟨ha1, ha2⟩ ⟨hb1, hb2⟩ ⟨hb1, hb2⟩
        have H2 := mulDiv_ret (a := -a) (b := b) (c := b) 1 ⟨by omega, by omega⟩ ⟨hb1, hb2⟩ ⟨hb1, hb2⟩
        have H3 := mulDiv_ret (a := a) (b := -b) (c := b) 2 ⟨ha1, ha2⟩ ⟨by omega, by omega⟩ ⟨hb1, hb2⟩
        rw [m1.1, m1.2, n1] at H1
        rw [m2.1, m2.2, n2] at H2
        rw [m3.1, m3.2, n3] at H3
        exact back_some a b (-a) (-b) h1 h2 h3 (IntWalk.i64_in _ (by omega)) (IntWalk.i64_in _ (by omega)) H1 H2 H3 w
      · exact back_skip a b (.inr (.inr ⟨h1, h2, h3⟩)) w
    · exact back_skip a b (.inr (.inl ⟨h1, h2⟩)) w
  · exact back_skip a b (.inl h1) w

end Go.Proofs.Ytfohfpeeghnocaa
