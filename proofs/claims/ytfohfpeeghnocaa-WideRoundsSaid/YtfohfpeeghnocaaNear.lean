/- WideNear and WideBack: the three ways to round, and what was multiplied and then parted by the same. -/
import Derived.Test.YtfohfpeeghnocaaMd
import Derived.Test.YtfohfpeeghnocaaSt
namespace Go.Proofs.Ytfohfpeeghnocaa
open Go.RowKit

theorem head_ret : Ret 26 #[] (.bool true) := fun w => by
  have H1 : Ret 27 #[.int .i64 7, .int .i64 3, .int .i64 2, .int .i64 0] (.tuple #[.int .i64 10, .int .i64 0]) := mulDiv_ret (a := 7) (b := 3) (c := 2) 0 ⟨by omega, by omega⟩ ⟨by omega, by omega⟩ ⟨by omega, by omega⟩
  have H2 : Ret 27 #[.int .i64 7, .int .i64 3, .int .i64 2, .int .i64 1] (.tuple #[.int .i64 11, .int .i64 0]) := mulDiv_ret (a := 7) (b := 3) (c := 2) 1 ⟨by omega, by omega⟩ ⟨by omega, by omega⟩ ⟨by omega, by omega⟩
  have HH := St.start w
  go_enter Try.func26, Try.ntmps26
  go_wp2_with (first
    | (go_at_call 27; (with_reducible refine (H1.go _).mono ?_); rintro e wx ⟨rfl, hb⟩; (first | replace HH := HH.call hb | replace HH := HH.drew.call hb | replace HH := (HH.drewN _).call hb); clear hb)
    | (go_at_call 27; (with_reducible refine (H2.go _).mono ?_); rintro e wx ⟨rfl, hb⟩; (first | replace HH := HH.call hb | replace HH := HH.drew.call hb | replace HH := (HH.drewN _).call hb); clear hb))
  go_ret
  exact ⟨rfl, HH.below⟩

set_option maxHeartbeats 1000000 in
theorem near_e (a b c d n u e f g : Int) (he : (e != 0) = true) (hc : (c != 0) = true)
    (H1 : Ret 27 #[.int .i64 a, .int .i64 b, .int .i64 c, .int .i64 0] (.tuple #[.int .i64 d, .int .i64 e]))
    (H2 : Ret 27 #[.int .i64 a, .int .i64 b, .int .i64 c, .int .i64 2] (.tuple #[.int .i64 n, .int .i64 f]))
    (H3 : Ret 27 #[.int .i64 a, .int .i64 b, .int .i64 c, .int .i64 1] (.tuple #[.int .i64 u, .int .i64 g]))
    (w : World) :
    Calls Try.prog 7 #[.int .i64 a, .int .i64 b, .int .i64 c] w fun e w' => e = .returned (.bool true) ∧ Below w.heap.size w w' := by
  have H0 := head_ret
  have HH := St.start w
  go_enter Try.func7, Try.ntmps7
  go_wp2_with (first
    | (go_at_call 26; (with_reducible refine (H0.go _).mono ?_); rintro e wx ⟨rfl, hb⟩; (first | replace HH := HH.call hb | replace HH := HH.drew.call hb | replace HH := (HH.drewN _).call hb); clear hb)
    | (go_at_call 27; (with_reducible refine (H1.go _).mono ?_); rintro e wx ⟨rfl, hb⟩; (first | replace HH := HH.call hb | replace HH := HH.drew.call hb | replace HH := (HH.drewN _).call hb); clear hb)
    | (go_at_call 27; (with_reducible refine (H2.go _).mono ?_); rintro e wx ⟨rfl, hb⟩; (first | replace HH := HH.call hb | replace HH := HH.drew.call hb | replace HH := (HH.drewN _).call hb); clear hb)
    | (go_at_call 27; (with_reducible refine (H3.go _).mono ?_); rintro e wx ⟨rfl, hb⟩; (first | replace HH := HH.call hb | replace HH := HH.drew.call hb | replace HH := (HH.drewN _).call hb); clear hb))
  go_ret
  exact ⟨rfl, HH.below⟩

set_option maxHeartbeats 1000000 in
theorem near_g (a b c d n u f g : Int) (hg : (g != 0) = true) (hc : (c != 0) = true)
    (H1 : Ret 27 #[.int .i64 a, .int .i64 b, .int .i64 c, .int .i64 0] (.tuple #[.int .i64 d, .int .i64 0]))
    (H2 : Ret 27 #[.int .i64 a, .int .i64 b, .int .i64 c, .int .i64 2] (.tuple #[.int .i64 n, .int .i64 f]))
    (H3 : Ret 27 #[.int .i64 a, .int .i64 b, .int .i64 c, .int .i64 1] (.tuple #[.int .i64 u, .int .i64 g]))
    (w : World) :
    Calls Try.prog 7 #[.int .i64 a, .int .i64 b, .int .i64 c] w fun e w' => e = .returned (.bool true) ∧ Below w.heap.size w w' := by
  have H0 := head_ret
  have HH := St.start w
  go_enter Try.func7, Try.ntmps7
  go_wp2_with (first
    | (go_at_call 26; (with_reducible refine (H0.go _).mono ?_); rintro e wx ⟨rfl, hb⟩; (first | replace HH := HH.call hb | replace HH := HH.drew.call hb | replace HH := (HH.drewN _).call hb); clear hb)
    | (go_at_call 27; (with_reducible refine (H1.go _).mono ?_); rintro e wx ⟨rfl, hb⟩; (first | replace HH := HH.call hb | replace HH := HH.drew.call hb | replace HH := (HH.drewN _).call hb); clear hb)
    | (go_at_call 27; (with_reducible refine (H2.go _).mono ?_); rintro e wx ⟨rfl, hb⟩; (first | replace HH := HH.call hb | replace HH := HH.drew.call hb | replace HH := (HH.drewN _).call hb); clear hb)
    | (go_at_call 27; (with_reducible refine (H3.go _).mono ?_); rintro e wx ⟨rfl, hb⟩; (first | replace HH := HH.call hb | replace HH := HH.drew.call hb | replace HH := (HH.drewN _).call hb); clear hb))
  go_ret
  exact ⟨rfl, HH.below⟩

set_option maxHeartbeats 1000000 in
theorem near_z (a b d n u : Int) 
    (H1 : Ret 27 #[.int .i64 a, .int .i64 b, .int .i64 0, .int .i64 0] (.tuple #[.int .i64 d, .int .i64 11]))
    (H2 : Ret 27 #[.int .i64 a, .int .i64 b, .int .i64 0, .int .i64 2] (.tuple #[.int .i64 n, .int .i64 11]))
    (H3 : Ret 27 #[.int .i64 a, .int .i64 b, .int .i64 0, .int .i64 1] (.tuple #[.int .i64 u, .int .i64 11]))
    (w : World) :
    Calls Try.prog 7 #[.int .i64 a, .int .i64 b, .int .i64 0] w fun e w' => e = .returned (.bool true) ∧ Below w.heap.size w w' := by
  have H0 := head_ret
  have HH := St.start w
  go_enter Try.func7, Try.ntmps7
  go_wp2_with (first
    | (go_at_call 26; (with_reducible refine (H0.go _).mono ?_); rintro e wx ⟨rfl, hb⟩; (first | replace HH := HH.call hb | replace HH := HH.drew.call hb | replace HH := (HH.drewN _).call hb); clear hb)
    | (go_at_call 27; (with_reducible refine (H1.go _).mono ?_); rintro e wx ⟨rfl, hb⟩; (first | replace HH := HH.call hb | replace HH := HH.drew.call hb | replace HH := (HH.drewN _).call hb); clear hb)
    | (go_at_call 27; (with_reducible refine (H2.go _).mono ?_); rintro e wx ⟨rfl, hb⟩; (first | replace HH := HH.call hb | replace HH := HH.drew.call hb | replace HH := (HH.drewN _).call hb); clear hb)
    | (go_at_call 27; (with_reducible refine (H3.go _).mono ?_); rintro e wx ⟨rfl, hb⟩; (first | replace HH := HH.call hb | replace HH := HH.drew.call hb | replace HH := (HH.drewN _).call hb); clear hb))
  go_ret
  exact ⟨rfl, HH.below⟩

set_option maxHeartbeats 1000000 in
theorem near_same (a b c d n : Int) (h1 : d ≤ n) (h2 : n ≤ d)
    (H1 : Ret 27 #[.int .i64 a, .int .i64 b, .int .i64 c, .int .i64 0] (.tuple #[.int .i64 d, .int .i64 0]))
    (H2 : Ret 27 #[.int .i64 a, .int .i64 b, .int .i64 c, .int .i64 2] (.tuple #[.int .i64 n, .int .i64 0]))
    (H3 : Ret 27 #[.int .i64 a, .int .i64 b, .int .i64 c, .int .i64 1] (.tuple #[.int .i64 d, .int .i64 0]))
    (w : World) :
    Calls Try.prog 7 #[.int .i64 a, .int .i64 b, .int .i64 c] w fun e w' => e = .returned (.bool true) ∧ Below w.heap.size w w' := by
  have H0 := head_ret
  have HH := St.start w
  go_enter Try.func7, Try.ntmps7
  go_wp2_with (first
    | (go_at_call 26; (with_reducible refine (H0.go _).mono ?_); rintro e wx ⟨rfl, hb⟩; (first | replace HH := HH.call hb | replace HH := HH.drew.call hb | replace HH := (HH.drewN _).call hb); clear hb)
    | (go_at_call 27; (with_reducible refine (H1.go _).mono ?_); rintro e wx ⟨rfl, hb⟩; (first | replace HH := HH.call hb | replace HH := HH.drew.call hb | replace HH := (HH.drewN _).call hb); clear hb)
    | (go_at_call 27; (with_reducible refine (H2.go _).mono ?_); rintro e wx ⟨rfl, hb⟩; (first | replace HH := HH.call hb | replace HH := HH.drew.call hb | replace HH := (HH.drewN _).call hb); clear hb)
    | (go_at_call 27; (with_reducible refine (H3.go _).mono ?_); rintro e wx ⟨rfl, hb⟩; (first | replace HH := HH.call hb | replace HH := HH.drew.call hb | replace HH := (HH.drewN _).call hb); clear hb))
  go_ret
  exact ⟨rfl, HH.below⟩

set_option maxHeartbeats 1000000 in
theorem near_next (a b c d n : Int) (h1 : d ≤ n) (h2 : n ≤ d + 1) (h3 : -9223372036854775808 ≤ d) (h4 : d < 9223372036854775807)
    (H1 : Ret 27 #[.int .i64 a, .int .i64 b, .int .i64 c, .int .i64 0] (.tuple #[.int .i64 d, .int .i64 0]))
    (H2 : Ret 27 #[.int .i64 a, .int .i64 b, .int .i64 c, .int .i64 2] (.tuple #[.int .i64 n, .int .i64 0]))
    (H3 : Ret 27 #[.int .i64 a, .int .i64 b, .int .i64 c, .int .i64 1] (.tuple #[.int .i64 (d + 1), .int .i64 0]))
    (w : World) :
    Calls Try.prog 7 #[.int .i64 a, .int .i64 b, .int .i64 c] w fun e w' => e = .returned (.bool true) ∧ Below w.heap.size w w' := by
  have H0 := head_ret
  have HH := St.start w
  have hz : (d + 1 == d) = false := by rw [beq_eq_false_iff_ne]; omega
  have hw : IntKind.i64.wrap (d + 1 - 1) = d := by rw [Int.add_sub_cancel]; exact IntWalk.i64_in _ (by omega)
  go_enter Try.func7, Try.ntmps7
  go_wp2_with (first
    | (go_at_call 26; (with_reducible refine (H0.go _).mono ?_); rintro e wx ⟨rfl, hb⟩; (first | replace HH := HH.call hb | replace HH := HH.drew.call hb | replace HH := (HH.drewN _).call hb); clear hb)
    | (go_at_call 27; (with_reducible refine (H1.go _).mono ?_); rintro e wx ⟨rfl, hb⟩; (first | replace HH := HH.call hb | replace HH := HH.drew.call hb | replace HH := (HH.drewN _).call hb); clear hb)
    | (go_at_call 27; (with_reducible refine (H2.go _).mono ?_); rintro e wx ⟨rfl, hb⟩; (first | replace HH := HH.call hb | replace HH := HH.drew.call hb | replace HH := (HH.drewN _).call hb); clear hb)
    | (go_at_call 27; (with_reducible refine (H3.go _).mono ?_); rintro e wx ⟨rfl, hb⟩; (first | replace HH := HH.call hb | replace HH := HH.drew.call hb | replace HH := (HH.drewN _).call hb); clear hb))
  go_ret
  exact ⟨rfl, HH.below⟩


def mdK (a b c round : Int) : Nat := if goes ((mdN a b / c.natAbs : Nat) : Int) ((mdN a b % c.natAbs : Nat) : Int) (c.natAbs : Int) (neg a b c) round = true then 1 else 0
theorem mdQ_eq (a b c round : Int) : mdQ a b c round = mdN a b / c.natAbs + mdK a b c round := rfl
theorem mdK_le (a b c round : Int) : mdK a b c round ≤ 1 := by unfold mdK; split <;> omega
theorem mdK_zero (a b c round : Int) (h : mdN a b % c.natAbs = 0) : mdK a b c round = 0 := by
  unfold mdK goes
  rw [h]; simp
theorem mdK_down (a b c : Int) (h : mdN a b % c.natAbs ≠ 0) : mdK a b c 0 = if neg a b c = true then 1 else 0 := by
  unfold mdK goes
  rw [if_neg (show ¬ ((mdN a b % c.natAbs : Nat) : Int) = 0 by omega)]; simp
theorem mdK_up (a b c : Int) (h : mdN a b % c.natAbs ≠ 0) : mdK a b c 1 = if neg a b c = true then 0 else 1 := by
  unfold mdK goes
  rw [if_neg (show ¬ ((mdN a b % c.natAbs : Nat) : Int) = 0 by omega)]
  cases neg a b c <;> simp

/-- What MulDiv answers, in one line: c is not 0, and the way to round is one of the three. -/
theorem md_cases (a b c round : Int) (hc : c ≠ 0) (hr : 0 ≤ round ∧ round ≤ 2) :
    (neg a b c = true ∧ mdN a b / c.natAbs + mdK a b c round ≤ 9223372036854775808 ∧ mdE a b c round = 0 ∧ mdV a b c round = -((mdN a b / c.natAbs + mdK a b c round : Nat) : Int)) ∨
    (neg a b c = false ∧ mdN a b / c.natAbs + mdK a b c round ≤ 9223372036854775807 ∧ mdE a b c round = 0 ∧ mdV a b c round = ((mdN a b / c.natAbs + mdK a b c round : Nat) : Int)) ∨
    (mdE a b c round = 10 ∧ mdV a b c round = 0 ∧ (neg a b c = true → 9223372036854775808 < mdN a b / c.natAbs + mdK a b c round) ∧ (neg a b c = false → 9223372036854775807 < mdN a b / c.natAbs + mdK a b c round)) := by
  have h1 : ¬ (round < 0 ∨ 2 < round) := by omega
  unfold mdE mdV mdOver
  rw [if_neg h1, if_neg hc, if_neg h1, if_neg hc, mdQ_eq]
  generalize mdN a b / c.natAbs + mdK a b c round = x
  cases hn : neg a b c
  · by_cases h : 9223372036854775807 < x
    · simp [h]
    · simp [h]; omega
  · by_cases h : 9223372036854775808 < x
    · simp [h]
    · simp [h]; omega

theorem near_walk (a b c : Int) (ha1 : -9223372036854775808 ≤ a) (ha2 : a < 9223372036854775808) (hb1 : -9223372036854775808 ≤ b) (hb2 : b < 9223372036854775808) (hc1 : -9223372036854775808 ≤ c) (hc2 : c < 9223372036854775808) (w : World) :
    Calls Try.prog 7 #[.int .i64 a, .int .i64 b, .int .i64 c] w fun e w' => e = .returned (.bool true) ∧ Below w.heap.size w w' := by
  have H1 := mulDiv_ret (a := a) (b := b) (c := c) 0 ⟨ha1, ha2⟩ ⟨hb1, hb2⟩ ⟨hc1, hc2⟩
  have H2 := mulDiv_ret (a := a) (b := b) (c := c) 2 ⟨ha1, ha2⟩ ⟨hb1, hb2⟩ ⟨hc1, hc2⟩
  have H3 := mulDiv_ret (a := a) (b := b) (c := c) 1 ⟨ha1, ha2⟩ ⟨hb1, hb2⟩ ⟨hc1, hc2⟩
  by_cases hc : c = 0
  · subst hc
    exact near_z a b _ _ _ H1 H2 H3 w
  have hcb : (c != 0) = true := by rw [bne_iff_ne]; exact hc
  by_cases hE : mdE a b c 0 = 0
  · by_cases hG : mdE a b c 1 = 0
    · have k2 := mdK_le a b c 2
      have c0 := md_cases a b c 0 hc (by omega)
      have c1 := md_cases a b c 1 hc (by omega)
      have c2 := md_cases a b c 2 hc (by omega)
      have hk : (mdK a b c 0 = 0 ∧ mdK a b c 1 = 0 ∧ mdK a b c 2 = 0) ∨ (neg a b c = true ∧ mdK a b c 0 = 1 ∧ mdK a b c 1 = 0) ∨ (neg a b c = false ∧ mdK a b c 0 = 0 ∧ mdK a b c 1 = 1) := by
        by_cases hl : mdN a b % c.natAbs = 0
        · exact .inl ⟨mdK_zero _ _ _ _ hl, mdK_zero _ _ _ _ hl, mdK_zero _ _ _ _ hl⟩
        · have e0 := mdK_down a b c hl
          have e1 := mdK_up a b c hl
          cases hn : neg a b c <;> simp [hn] at e0 e1 <;> simp [e0, e1]
      have hF : mdE a b c 2 = 0 ∧ mdV a b c 0 ≤ mdV a b c 2 ∧ mdV a b c 2 ≤ mdV a b c 1 ∧ (mdV a b c 1 = mdV a b c 0 ∨ mdV a b c 1 = mdV a b c 0 + 1) ∧ -9223372036854775808 ≤ mdV a b c 0 ∧ mdV a b c 1 < 9223372036854775808 := by
        rw [hE] at c0
        rw [hG] at c1
        generalize mdK a b c 0 = k0 at *
        generalize mdK a b c 1 = k1 at *
        generalize mdK a b c 2 = k2 at *
        generalize mdN a b / c.natAbs = q at *
        cases hn : neg a b c <;> simp [hn] at c0 c1 c2 hk <;> omega
      obtain ⟨hF, l1, l2, l3, l4, l5⟩ := hF
      rw [hE] at H1
      rw [hF] at H2
      rw [hG] at H3
      rcases l3 with e | e
      · rw [e] at H3 l2
        exact near_same a b c _ _ l1 l2 H1 H2 H3 w
      · rw [e] at H3 l2
        exact near_next a b c _ _ l1 l2 l4 (by omega) H1 H2 H3 w
    · exact near_g a b c _ _ _ _ _ (by rw [bne_iff_ne]; exact hG) hcb (hE ▸ H1) H2 H3 w
  · exact near_e a b c _ _ _ _ _ _ (by rw [bne_iff_ne]; exact hE) hcb H1 H2 H3 w

end Go.Proofs.Ytfohfpeeghnocaa
