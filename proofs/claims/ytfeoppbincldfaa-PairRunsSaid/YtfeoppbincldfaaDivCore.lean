/- The quotient of a number of 128 bits by one of 64, whose quotient fits: two steps of the school method. -/
import Derived.Test.YtfeoppbincldfaaBits
import Derived.Test.YtfeoppbincldfaaKnuth
namespace Go.Proofs.Ytfeoppbincldfaa
open Go.RowKit

def KRel (Q y1 U : Int) (a b : Value) : Prop :=
  ∃ q r : Int, a = .int .u64 q ∧ b = .int .u64 r ∧ 0 ≤ q ∧ q ≤ 4294967297 ∧ Q ≤ q ∧ q * y1 + r = U ∧ 0 ≤ r ∧ r < 4294967296

theorem krel_start {Q Y y1 U d : Int} (hU : 0 ≤ U) (hUY : U < Y) (hY : 9223372036854775808 ≤ Y) (hd : 0 ≤ d) (hd2 : d < 4294967296) (e1 : Y / 4294967296 = y1) (hy : y1 < 4294967296)
    (hQ : Q = (U * 4294967296 + d) / Y) : KRel Q y1 U (.int .u64 (U / y1)) (.int .u64 (U % y1)) := by
  obtain ⟨a, b, c⟩ := Kn.quo_first hU hUY hY hd hd2
  rw [e1] at a b c
  refine ⟨_, _, rfl, rfl, c, b, by omega, ?_, Int.emod_nonneg _ (by omega), ?_⟩
  · rw [Int.mul_comm]; exact Int.mul_ediv_add_emod U y1
  · have := Int.emod_lt_of_pos U (show 0 < y1 by omega); omega

theorem krel_next {Q Y y1 y0 U d q r : Int} (hUY : U < Y) (hY : 9223372036854775808 ≤ Y) (hd2 : d < 4294967296) (e1 : Y / 4294967296 = y1) (e0 : Y % 4294967296 = y0)
    (hQ : Q = (U * 4294967296 + d) / Y) (heq : q * y1 + r = U) (h : 4294967296 ≤ q ∨ 4294967296 * r + d < q * y0) : Q ≤ q - 1 ∧ (q - 1) * y1 + (r + y1) = U := by
  subst e1 e0
  have := Kn.quo_yes hUY (by omega) hd2 heq h
  refine ⟨by omega, ?_⟩
  rw [Int.sub_mul, Int.one_mul]; omega

theorem krel_end {Q Y y1 y0 U d q r : Int} (hY : 9223372036854775808 ≤ Y) (e1 : Y / 4294967296 = y1) (e0 : Y % 4294967296 = y0)
    (hQ : Q = (U * 4294967296 + d) / Y) (heq : q * y1 + r = U) (h : q * y0 ≤ 4294967296 * r + d) (hle : Q ≤ q) : q = Q := by
  subst e1 e0
  have := Kn.quo_no (by omega) heq h (by omega)
  omega

theorem krel_brk {Q Y y1 y0 U d q r : Int} (hY : 9223372036854775808 ≤ Y) (e1 : Y / 4294967296 = y1) (e0 : Y % 4294967296 = y0) (hd : 0 ≤ d)
    (hQ : Q = (U * 4294967296 + d) / Y) (heq : q * y1 + r = U) (hq : q ≤ 4294967296) (hr : 4294967296 ≤ r) (hle : Q ≤ q) : q = Q := by
  refine krel_end hY e1 e0 hQ heq ?_ hle
  subst e0
  exact Kn.small_enough hd hq hr

theorem wrap_left {Y U d Q R : Int} (hY : 9223372036854775808 ≤ Y) (hY2 : Y < 18446744073709551616) (hQ : Q = (U * 4294967296 + d) / Y) (hR : R = (U * 4294967296 + d) % Y) :
    IntKind.u64.wrap (IntKind.u64.wrap (IntKind.u64.wrap (U * 4294967296) + d) - IntKind.u64.wrap (Q * Y)) = R := by
  simp only [IntKind.wrap_u64]
  rw [hR]
  exact Kn.left_eq (by omega) hY2 hQ

theorem wrap_rest {U y1 : Int} (hU : 0 ≤ U) (hU2 : U < 18446744073709551616) (hy : 0 < y1) : IntKind.u64.wrap (U - IntKind.u64.wrap (U / y1 * y1)) = U % y1 := by
  have h := Int.mul_ediv_add_emod U y1
  have h1 := Int.emod_nonneg U (show y1 ≠ 0 by omega)
  have h2 := Int.emod_lt_of_pos U hy
  have h3 : 0 ≤ U / y1 := Int.ediv_nonneg hU (by omega)
  have h4 : 0 ≤ y1 * (U / y1) := Int.mul_nonneg (by omega) h3
  rw [Int.mul_comm (U / y1) y1]
  simp only [IntKind.wrap_u64]
  omega

set_option maxHeartbeats 8000000 in
theorem div64_core (hi lo y Y U L y1 y0 Q1 Q0 R R0 : Int) (S : Nat) (h1 : 0 < hi) (h2 : hi < y) (_h3 : y < 18446744073709551616) (_h4 : 0 ≤ lo) (_h5 : lo < 18446744073709551616) (hS : (S : Int) ≤ 63)
    (hlead : Hid (∀ w, Calls Try.prog 134 #[.int .u64 y] w fun e w' => e = .returned (.int .i64 (S : Int)) ∧ w = w'))
    (eY : IntKind.u64.wrap (y * 2 ^ S) = Y) (hY1 : 9223372036854775808 ≤ Y) (hY2 : Y < 18446744073709551616)
    (eL : IntKind.u64.wrap (lo * 2 ^ S) = L) (hL1 : 0 ≤ L) (hL2 : L < 18446744073709551616)
    (eU : bits BinOp.or IntKind.u64 (IntKind.u64.wrap (hi * 2 ^ S)) (lo / 2 ^ (64 - S)) = U) (hU1 : 0 ≤ U) (hU2 : U < Y)
    (ey1 : Y / 4294967296 = y1) (ey0 : bits BinOp.and IntKind.u64 Y 4294967295 = y0) (eL0 : bits BinOp.and IntKind.u64 L 4294967295 = L % 4294967296)
    (hy1 : 2147483648 ≤ y1) (hy12 : y1 < 4294967296) (hy0 : 0 ≤ y0) (hy02 : y0 < 4294967296) (hm0 : Hid (Y % 4294967296 = y0))
    (hQ1 : Hid (Q1 = (U * 4294967296 + L / 4294967296) / Y)) (hR : Hid (R = (U * 4294967296 + L / 4294967296) % Y))
    (hQ0 : Hid (Q0 = (R * 4294967296 + L % 4294967296) / Y)) (hR0 : Hid (R0 = (R * 4294967296 + L % 4294967296) % Y))
    (hR1 : 0 ≤ R) (hR2 : R < Y) (hQ11 : 0 ≤ Q1) (hQ12 : Q1 < 4294967296) (hQ01 : 0 ≤ Q0) (hQ02 : Q0 < 4294967296) (_hR01 : 0 ≤ R0)
    (w : World) (N D : Int) (hf1 : Hid (Q1 * 4294967296 + Q0 = N)) (hf2 : Hid (R0 / 2 ^ S = D)) :
    Calls Try.prog 125 #[.int .u64 hi, .int .u64 lo, .int .u64 y] w fun e w' =>
      e = .returned (.tuple #[.int .u64 N, .int .u64 D]) ∧ w = w' := by
  have hz1 : (y == 0) = false := by rw [beq_eq_false_iff_ne]; omega
  have hz2 : (hi == 0) = false := by rw [beq_eq_false_iff_ne]; omega
  have er1 := wrap_rest (U := U) (y1 := y1) (by omega) (by omega) (by omega)
  have er2 := wrap_rest (U := R) (y1 := y1) (by omega) (by omega) (by omega)
  have Hy1 := Lib.hid ey1
  go_enter Try.func125, Try.ntmps125
  go_wp2_with (go_at_call 134; refine (hlead.out _).mono ?_; rintro e w' ⟨rfl, rfl⟩)
  go_loop [15, 16] (fun a b => KRel Q1 y1 U a b) (fun a _ => (intOf a).toNat)
  case atStart => exact krel_start hU1 hU2 hY1 (by omega) (by omega) Hy1.out hy12 hQ1.out
  case round =>
    obtain ⟨q, r, rfl, rfl, hq0, hq1, hqQ, heq, hr0, hr1⟩ := hrel
    have Heq := Lib.hid heq
    clear heq
    by_cases hgo : (4294967296 ≤ q ∨ 4294967296 * r + L / 4294967296 < q * y0) ∧ r + y1 < 4294967296
    · obtain ⟨hyes, hlt⟩ := hgo
      obtain ⟨n1, n2⟩ := krel_next (d := L / 4294967296) hU2 hY1 (by omega) Hy1.out hm0.out hQ1.out Heq.out hyes
      have N2 := Lib.hid n2
      clear n2
      have hq2 : 1 ≤ q := by omega
      by_cases hbig : 4294967296 ≤ q
      · clear hyes
        go_wp2_with fail
        go_round
        case rel => exact ⟨_, _, rfl, rfl, by omega, by omega, n1, N2.out, by omega, by omega⟩
        case measure => simp [intOf]; omega
      · have hcond : 4294967296 * r + L / 4294967296 < q * y0 := by rcases hyes with h | h; omega; exact h
        clear hyes
        have ew : IntKind.u64.wrap (q * y0) = q * y0 := by
          have := Kn.less hq0 (by omega) hy0 hy02
          rw [IntKind.wrap_u64]; omega
        go_wp2_with fail
        go_round
        case rel => exact ⟨_, _, rfl, rfl, by omega, by omega, n1, N2.out, by omega, by omega⟩
        case measure => simp [intOf]; omega
    · have el := wrap_left (Y := Y) (U := U) (d := L / 4294967296) (Q := Q1) (R := R) (by omega) hY2 hQ1.out hR.out
      have hway : (4294967296 ≤ q ∧ 4294967296 ≤ r + y1 ∧ q - 1 = Q1) ∨ (q < 4294967296 ∧ 4294967296 * r + L / 4294967296 < q * y0 ∧ 4294967296 ≤ r + y1 ∧ q - 1 = Q1) ∨ (q < 4294967296 ∧ q * y0 ≤ 4294967296 * r + L / 4294967296 ∧ q = Q1) := by
        by_cases hyes : 4294967296 ≤ q ∨ 4294967296 * r + L / 4294967296 < q * y0
        · obtain ⟨n1, n2⟩ := krel_next (d := L / 4294967296) hU2 hY1 (by omega) Hy1.out hm0.out hQ1.out Heq.out hyes
          have hb := krel_brk (d := L / 4294967296) hY1 Hy1.out hm0.out (by omega) hQ1.out n2 (by omega) (by omega) n1
          omega
        · have he := krel_end (d := L / 4294967296) hY1 Hy1.out hm0.out hQ1.out Heq.out (by omega) hqQ
          omega
      clear hgo
      have hq2 : 4294967296 ≤ q ∨ 4294967296 * r + L / 4294967296 < q * y0 → 1 ≤ q := by
        rintro (h | h)
        · omega
        · rcases Int.lt_or_le 0 q with h | h
          · omega
          · have : q = 0 := by omega
            subst this
            omega
      rcases hway with ⟨w1, w2, w3⟩ | ⟨w1, w2, w3, w4⟩ | ⟨w1, w2, rfl⟩
      · have hq3 := hq2 (.inl w1)
        clear hq2
        go_wp2_with fail
        clear hqQ hq0 hq1 hr0 hr1 el er1
        go_loop [18, 16] (fun a b => KRel Q0 y1 R a b) (fun a _ => (intOf a).toNat)
        case atStart => exact krel_start hR1 hR2 hY1 (by omega) (by omega) Hy1.out hy12 hQ0.out
        case round =>
          obtain ⟨p, t, rfl, rfl, hp0, hp1, hpQ, hpe, ht0, ht1⟩ := hrel
          have Hpe := Lib.hid hpe
          clear hpe
          have hp2 : 4294967296 ≤ p ∨ 4294967296 * t + L % 4294967296 < p * y0 → 1 ≤ p := by
            rintro (h | h)
            · omega
            · rcases Int.lt_or_le 0 p with h | h
              · omega
              · have : p = 0 := by omega
                subst this
                omega
          by_cases hgo : (4294967296 ≤ p ∨ 4294967296 * t + L % 4294967296 < p * y0) ∧ t + y1 < 4294967296
          · obtain ⟨hyes, hlt⟩ := hgo
            obtain ⟨n1, n2⟩ := krel_next (d := L % 4294967296) hR2 hY1 (by omega) Hy1.out hm0.out hQ0.out Hpe.out hyes
            have N2 := Lib.hid n2
            have hp3 := hp2 hyes
            clear n2 hp2
            by_cases hbig : 4294967296 ≤ p
            · clear hyes
              go_wp2_with fail
              go_round
              case rel => exact ⟨_, _, rfl, rfl, by omega, by omega, n1, N2.out, by omega, by omega⟩
              case measure => simp [intOf]; omega
            · have hcond : 4294967296 * t + L % 4294967296 < p * y0 := by rcases hyes with h | h; omega; exact h
              clear hyes
              have ew : IntKind.u64.wrap (p * y0) = p * y0 := by
                have := Kn.less hp0 (by omega) hy0 hy02
                rw [IntKind.wrap_u64]; omega
              go_wp2_with fail
              go_round
              case rel => exact ⟨_, _, rfl, rfl, by omega, by omega, n1, N2.out, by omega, by omega⟩
              case measure => simp [intOf]; omega
          · have el := wrap_left (Y := Y) (U := R) (d := L % 4294967296) (Q := Q0) (R := R0) (by omega) hY2 hQ0.out hR0.out
            have hway : (4294967296 ≤ p ∧ 4294967296 ≤ t + y1 ∧ p - 1 = Q0) ∨ (p < 4294967296 ∧ 4294967296 * t + L % 4294967296 < p * y0 ∧ 4294967296 ≤ t + y1 ∧ p - 1 = Q0) ∨ (p < 4294967296 ∧ p * y0 ≤ 4294967296 * t + L % 4294967296 ∧ p = Q0) := by
              by_cases hyes : 4294967296 ≤ p ∨ 4294967296 * t + L % 4294967296 < p * y0
              · obtain ⟨n1, n2⟩ := krel_next (d := L % 4294967296) hR2 hY1 (by omega) Hy1.out hm0.out hQ0.out Hpe.out hyes
                have hb := krel_brk (d := L % 4294967296) hY1 Hy1.out hm0.out (by omega) hQ0.out n2 (by omega) (by omega) n1
                omega
              · have he := krel_end (d := L % 4294967296) hY1 Hy1.out hm0.out hQ0.out Hpe.out (by omega) hpQ
                omega
            clear hgo
            rcases hway with ⟨z1, z2, z3⟩ | ⟨z1, z2, z3, z4⟩ | ⟨z1, z2, rfl⟩
            · have hp3 := hp2 (.inl z1)
              clear hp2
              go_wp2_with fail
              go_ret2
              exact ⟨ret_ii hf1.out hf2.out, rfl⟩
            · have hp3 := hp2 (.inr z2)
              clear hp2
              have ew : IntKind.u64.wrap (p * y0) = p * y0 := by
                have := Kn.less hp0 (by omega) hy0 hy02
                rw [IntKind.wrap_u64]; omega
              go_wp2_with fail
              go_ret2
              exact ⟨ret_ii hf1.out hf2.out, rfl⟩
            · clear hp2
              have ew : IntKind.u64.wrap (p * y0) = p * y0 := by
                have := Kn.less hp0 (by omega) hy0 hy02
                rw [IntKind.wrap_u64]; omega
              go_wp2_with fail
              go_ret2
              exact ⟨ret_ii hf1.out hf2.out, rfl⟩
      · have hq3 := hq2 (.inr w2)
        clear hq2
        have ew : IntKind.u64.wrap (q * y0) = q * y0 := by
          have := Kn.less hq0 (by omega) hy0 hy02
          rw [IntKind.wrap_u64]; omega
        go_wp2_with fail
        clear hqQ hq0 hq1 hr0 hr1 el er1
        go_loop [18, 16] (fun a b => KRel Q0 y1 R a b) (fun a _ => (intOf a).toNat)
        case atStart => exact krel_start hR1 hR2 hY1 (by omega) (by omega) Hy1.out hy12 hQ0.out
        case round =>
          obtain ⟨p, t, rfl, rfl, hp0, hp1, hpQ, hpe, ht0, ht1⟩ := hrel
          have Hpe := Lib.hid hpe
          clear hpe
          have hp2 : 4294967296 ≤ p ∨ 4294967296 * t + L % 4294967296 < p * y0 → 1 ≤ p := by
            rintro (h | h)
            · omega
            · rcases Int.lt_or_le 0 p with h | h
              · omega
              · have : p = 0 := by omega
                subst this
                omega
          by_cases hgo : (4294967296 ≤ p ∨ 4294967296 * t + L % 4294967296 < p * y0) ∧ t + y1 < 4294967296
          · obtain ⟨hyes, hlt⟩ := hgo
            obtain ⟨n1, n2⟩ := krel_next (d := L % 4294967296) hR2 hY1 (by omega) Hy1.out hm0.out hQ0.out Hpe.out hyes
            have N2 := Lib.hid n2
            have hp3 := hp2 hyes
            clear n2 hp2
            by_cases hbig : 4294967296 ≤ p
            · clear hyes
              go_wp2_with fail
              go_round
              case rel => exact ⟨_, _, rfl, rfl, by omega, by omega, n1, N2.out, by omega, by omega⟩
              case measure => simp [intOf]; omega
            · have hcond : 4294967296 * t + L % 4294967296 < p * y0 := by rcases hyes with h | h; omega; exact h
              clear hyes
              have ew : IntKind.u64.wrap (p * y0) = p * y0 := by
                have := Kn.less hp0 (by omega) hy0 hy02
                rw [IntKind.wrap_u64]; omega
              go_wp2_with fail
              go_round
              case rel => exact ⟨_, _, rfl, rfl, by omega, by omega, n1, N2.out, by omega, by omega⟩
              case measure => simp [intOf]; omega
          · have el := wrap_left (Y := Y) (U := R) (d := L % 4294967296) (Q := Q0) (R := R0) (by omega) hY2 hQ0.out hR0.out
            have hway : (4294967296 ≤ p ∧ 4294967296 ≤ t + y1 ∧ p - 1 = Q0) ∨ (p < 4294967296 ∧ 4294967296 * t + L % 4294967296 < p * y0 ∧ 4294967296 ≤ t + y1 ∧ p - 1 = Q0) ∨ (p < 4294967296 ∧ p * y0 ≤ 4294967296 * t + L % 4294967296 ∧ p = Q0) := by
              by_cases hyes : 4294967296 ≤ p ∨ 4294967296 * t + L % 4294967296 < p * y0
              · obtain ⟨n1, n2⟩ := krel_next (d := L % 4294967296) hR2 hY1 (by omega) Hy1.out hm0.out hQ0.out Hpe.out hyes
                have hb := krel_brk (d := L % 4294967296) hY1 Hy1.out hm0.out (by omega) hQ0.out n2 (by omega) (by omega) n1
                omega
              · have he := krel_end (d := L % 4294967296) hY1 Hy1.out hm0.out hQ0.out Hpe.out (by omega) hpQ
                omega
            clear hgo
            rcases hway with ⟨z1, z2, z3⟩ | ⟨z1, z2, z3, z4⟩ | ⟨z1, z2, rfl⟩
            · have hp3 := hp2 (.inl z1)
              clear hp2
              go_wp2_with fail
              go_ret2
              exact ⟨ret_ii hf1.out hf2.out, rfl⟩
            · have hp3 := hp2 (.inr z2)
              clear hp2
              have ew : IntKind.u64.wrap (p * y0) = p * y0 := by
                have := Kn.less hp0 (by omega) hy0 hy02
                rw [IntKind.wrap_u64]; omega
              go_wp2_with fail
              go_ret2
              exact ⟨ret_ii hf1.out hf2.out, rfl⟩
            · clear hp2
              have ew : IntKind.u64.wrap (p * y0) = p * y0 := by
                have := Kn.less hp0 (by omega) hy0 hy02
                rw [IntKind.wrap_u64]; omega
              go_wp2_with fail
              go_ret2
              exact ⟨ret_ii hf1.out hf2.out, rfl⟩
      · clear hq2
        have ew : IntKind.u64.wrap (q * y0) = q * y0 := by
          have := Kn.less hq0 (by omega) hy0 hy02
          rw [IntKind.wrap_u64]; omega
        go_wp2_with fail
        clear hqQ hq0 hq1 hr0 hr1 el er1
        go_loop [18, 16] (fun a b => KRel Q0 y1 R a b) (fun a _ => (intOf a).toNat)
        case atStart => exact krel_start hR1 hR2 hY1 (by omega) (by omega) Hy1.out hy12 hQ0.out
        case round =>
          obtain ⟨p, t, rfl, rfl, hp0, hp1, hpQ, hpe, ht0, ht1⟩ := hrel
          have Hpe := Lib.hid hpe
          clear hpe
          have hp2 : 4294967296 ≤ p ∨ 4294967296 * t + L % 4294967296 < p * y0 → 1 ≤ p := by
            rintro (h | h)
            · omega
            · rcases Int.lt_or_le 0 p with h | h
              · omega
              · have : p = 0 := by omega
                subst this
                omega
          by_cases hgo : (4294967296 ≤ p ∨ 4294967296 * t + L % 4294967296 < p * y0) ∧ t + y1 < 4294967296
          · obtain ⟨hyes, hlt⟩ := hgo
            obtain ⟨n1, n2⟩ := krel_next (d := L % 4294967296) hR2 hY1 (by omega) Hy1.out hm0.out hQ0.out Hpe.out hyes
            have N2 := Lib.hid n2
            have hp3 := hp2 hyes
            clear n2 hp2
            by_cases hbig : 4294967296 ≤ p
            · clear hyes
              go_wp2_with fail
              go_round
              case rel => exact ⟨_, _, rfl, rfl, by omega, by omega, n1, N2.out, by omega, by omega⟩
              case measure => simp [intOf]; omega
            · have hcond : 4294967296 * t + L % 4294967296 < p * y0 := by rcases hyes with h | h; omega; exact h
              clear hyes
              have ew : IntKind.u64.wrap (p * y0) = p * y0 := by
                have := Kn.less hp0 (by omega) hy0 hy02
                rw [IntKind.wrap_u64]; omega
              go_wp2_with fail
              go_round
              case rel => exact ⟨_, _, rfl, rfl, by omega, by omega, n1, N2.out, by omega, by omega⟩
              case measure => simp [intOf]; omega
          · have el := wrap_left (Y := Y) (U := R) (d := L % 4294967296) (Q := Q0) (R := R0) (by omega) hY2 hQ0.out hR0.out
            have hway : (4294967296 ≤ p ∧ 4294967296 ≤ t + y1 ∧ p - 1 = Q0) ∨ (p < 4294967296 ∧ 4294967296 * t + L % 4294967296 < p * y0 ∧ 4294967296 ≤ t + y1 ∧ p - 1 = Q0) ∨ (p < 4294967296 ∧ p * y0 ≤ 4294967296 * t + L % 4294967296 ∧ p = Q0) := by
              by_cases hyes : 4294967296 ≤ p ∨ 4294967296 * t + L % 4294967296 < p * y0
              · obtain ⟨n1, n2⟩ := krel_next (d := L % 4294967296) hR2 hY1 (by omega) Hy1.out hm0.out hQ0.out Hpe.out hyes
                have hb := krel_brk (d := L % 4294967296) hY1 Hy1.out hm0.out (by omega) hQ0.out n2 (by omega) (by omega) n1
                omega
              · have he := krel_end (d := L % 4294967296) hY1 Hy1.out hm0.out hQ0.out Hpe.out (by omega) hpQ
                omega
            clear hgo
            rcases hway with ⟨z1, z2, z3⟩ | ⟨z1, z2, z3, z4⟩ | ⟨z1, z2, rfl⟩
            · have hp3 := hp2 (.inl z1)
              clear hp2
              go_wp2_with fail
              go_ret2
              exact ⟨ret_ii hf1.out hf2.out, rfl⟩
            · have hp3 := hp2 (.inr z2)
              clear hp2
              have ew : IntKind.u64.wrap (p * y0) = p * y0 := by
                have := Kn.less hp0 (by omega) hy0 hy02
                rw [IntKind.wrap_u64]; omega
              go_wp2_with fail
              go_ret2
              exact ⟨ret_ii hf1.out hf2.out, rfl⟩
            · clear hp2
              have ew : IntKind.u64.wrap (p * y0) = p * y0 := by
                have := Kn.less hp0 (by omega) hy0 hy02
                rw [IntKind.wrap_u64]; omega
              go_wp2_with fail
              go_ret2
              exact ⟨ret_ii hf1.out hf2.out, rfl⟩

end Go.Proofs.Ytfeoppbincldfaa
