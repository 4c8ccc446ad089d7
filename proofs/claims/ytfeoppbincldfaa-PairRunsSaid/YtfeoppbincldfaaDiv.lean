/- The quotient of a number of 128 bits by one of 64, whose quotient fits. -/
import Derived.Test.YtfeoppbincldfaaDivCore
import Derived.Deep.QuietTactic
import Derived.BigQuiet
namespace Go.Proofs.Ytfeoppbincldfaa
open Go.RowKit

theorem or_add (a b S : Nat) (ha : a * 2 ^ S < 18446744073709551616) (hb : b < 2 ^ S) (hS : S ≤ 63) : bits BinOp.or IntKind.u64 ((a * 2 ^ S : Nat) : Int) (b : Int) = ((a * 2 ^ S + b : Nat) : Int) := by
  have h64 : 2 ^ S ≤ 9223372036854775808 := by
    have : (2 : Nat) ^ S ≤ 2 ^ 63 := Nat.pow_le_pow_right (by omega) hS
    exact this
  rw [bits_or_u64_nat _ _ ha (by omega)]
  rw [Nat.mul_comm a, Nat.two_pow_add_eq_or_of_lt hb]

theorem div64_zero (lo y : Int) (h2 : 0 < y) (h3 : y < 18446744073709551616) (h4 : 0 ≤ lo) (h5 : lo < 18446744073709551616) (w : World) :
    Calls Try.prog 125 #[.int .u64 0, .int .u64 lo, .int .u64 y] w fun e w' =>
      e = .returned (.tuple #[.int .u64 (lo / y), .int .u64 (lo % y)]) ∧ ∃ n, w' = w.drewN n := by
  have hz1 : (y == 0) = false := by rw [beq_eq_false_iff_ne]; omega
  go_enter Try.func125, Try.ntmps125
  go_wp2
  go_quiet (fail)
  go_wp2
  go_ret2
  exact ⟨rfl, _, rfl⟩

theorem div64_any (hi lo y : Int) (h1 : 0 ≤ hi) (h2 : hi < y) (h3 : y < 18446744073709551616) (h4 : 0 ≤ lo) (h5 : lo < 18446744073709551616) (w : World) :
    Calls Try.prog 125 #[.int .u64 hi, .int .u64 lo, .int .u64 y] w fun e w' =>
      e = .returned (.tuple #[.int .u64 ((hi * 18446744073709551616 + lo) / y), .int .u64 ((hi * 18446744073709551616 + lo) % y)]) ∧ ∃ n, w' = w.drewN n := by
  rcases Int.lt_or_le 0 hi with h0 | h0
  · obtain ⟨Hi, rfl⟩ := Int.eq_ofNat_of_zero_le h1
    obtain ⟨Lo, rfl⟩ := Int.eq_ofNat_of_zero_le h4
    obtain ⟨y, rfl⟩ := Int.eq_ofNat_of_zero_le (show 0 ≤ y by omega)
    obtain ⟨b1, b2, b3, b4⟩ := bits_bounds 64 y (by omega) (by omega)
    have hlead := fun w => lead64_any (y : Int) (by omega) (by omega) w
    rw [show ((y : Int).toNat) = y from rfl] at hlead
    unfold Lib.bitLen at hlead
    generalize Lib.bitLenAux 64 y = b at *
    have hS : 64 - b ≤ 63 := by omega
    generalize hSb : 64 - b = S at *
    have hp : 2 ^ (b - 1) * 2 ^ S = 9223372036854775808 := by rw [← Nat.pow_add, show b - 1 + S = 63 by omega]
    have hp2 : 2 ^ b * 2 ^ S = 18446744073709551616 := by rw [← Nat.pow_add, show b + S = 64 by omega]
    have hp3 : 2 ^ (64 - S) * 2 ^ S = 18446744073709551616 := by rw [← Nat.pow_add, show 64 - S + S = 64 by omega]
    have hP : 0 < 2 ^ S := Nat.pow_pos (by omega)
    have hY1 : 9223372036854775808 ≤ y * 2 ^ S := by rw [← hp]; exact Nat.mul_le_mul_right _ b1
    have hY2 : y * 2 ^ S < 18446744073709551616 := by rw [← hp2]; exact Nat.mul_lt_mul_of_pos_right b2 hP
    have hhi : Hi * 2 ^ S < 18446744073709551616 := Nat.lt_of_le_of_lt (Nat.mul_le_mul_right _ (by omega)) hY2
    have hlo : Lo / 2 ^ (64 - S) < 2 ^ S := by
      apply Nat.div_lt_of_lt_mul
      rw [hp3]; omega
    have hlo2 : Lo * 2 ^ S / 18446744073709551616 = Lo / 2 ^ (64 - S) := by
      rw [← hp3]; exact Nat.mul_div_mul_right _ _ hP
    have hUL : (Hi * 2 ^ S + Lo / 2 ^ (64 - S)) * 18446744073709551616 + Lo * 2 ^ S % 18446744073709551616 = (Hi * 18446744073709551616 + Lo) * 2 ^ S := by
      rw [← hlo2, Nat.add_mul, Nat.add_mul, Nat.mul_right_comm Hi]
      omega
    have hlt : (Hi * 18446744073709551616 + Lo) * 2 ^ S < y * 2 ^ S * 18446744073709551616 := by
      rw [Nat.mul_right_comm y]
      exact Nat.mul_lt_mul_of_pos_right (by omega) hP
    have hUY : Hi * 2 ^ S + Lo / 2 ^ (64 - S) < y * 2 ^ S := by omega
    have hYpos : 0 < y * 2 ^ S := by omega
    have eU := or_add Hi (Lo / 2 ^ (64 - S)) S hhi hlo hS
    have hq : (Hi * 18446744073709551616 + Lo) * 2 ^ S / (y * 2 ^ S) = (Hi * 18446744073709551616 + Lo) / y := Nat.mul_div_mul_right _ _ hP
    have hr : (Hi * 18446744073709551616 + Lo) * 2 ^ S % (y * 2 ^ S) = (Hi * 18446744073709551616 + Lo) % y * 2 ^ S := Nat.mul_mod_mul_right _ _ _
    generalize hUU : Hi * 2 ^ S + Lo / 2 ^ (64 - S) = U at *
    generalize hLL : Lo * 2 ^ S % 18446744073709551616 = L at *
    generalize hYY : y * 2 ^ S = Y at *
    have hL2 : L < 18446744073709551616 := by omega
    obtain ⟨d1, d2⟩ := Kn.two_digits (Y := Y) (U := U) (d1 := (L : Int) / 4294967296) (d0 := (L : Int) % 4294967296) (by omega)
    obtain ⟨e1, e2⟩ := Kn.digits_lt (Y := Y) (U := U) (d := (L : Int) / 4294967296) (by omega) (by omega) (by omega) (by omega)
    have hR1 := Int.emod_nonneg ((U : Int) * 4294967296 + (L : Int) / 4294967296) (show (Y : Int) ≠ 0 by omega)
    have hR2 := Int.emod_lt_of_pos ((U : Int) * 4294967296 + (L : Int) / 4294967296) (show 0 < (Y : Int) by omega)
    obtain ⟨e3, e4⟩ := Kn.digits_lt (Y := Y) (U := ((U : Int) * 4294967296 + (L : Int) / 4294967296) % Y) (d := (L : Int) % 4294967296) hR1 hR2 (by omega) (by omega)
    have hN : ((U : Int) * 4294967296 + (L : Int) / 4294967296) * 4294967296 + (L : Int) % 4294967296 = (((Hi * 18446744073709551616 + Lo) * 2 ^ S : Nat) : Int) := by omega
    rw [hN] at d1 d2
    have f1 : (((Hi * 18446744073709551616 + Lo) * 2 ^ S : Nat) : Int) / (Y : Int) = ((Hi : Int) * 18446744073709551616 + Lo) / (y : Int) := by
      rw [← Int.natCast_ediv, hq, Int.natCast_ediv]; rfl
    have f2 : (((Hi * 18446744073709551616 + Lo) * 2 ^ S : Nat) : Int) % (Y : Int) = ((((Hi * 18446744073709551616 + Lo) % y) * 2 ^ S : Nat) : Int) := by
      rw [← Int.natCast_emod, hr]
    have f3 : (((Hi * 18446744073709551616 + Lo) * 2 ^ S : Nat) : Int) % (Y : Int) / 2 ^ S = ((Hi : Int) * 18446744073709551616 + Lo) % (y : Int) := by
      rw [f2]
      have : ((2 : Int) ^ S) = ((2 ^ S : Nat) : Int) := by simp
      rw [this, ← Int.natCast_ediv, Nat.mul_div_cancel _ hP, Int.natCast_emod]; rfl
    have hm := mask32 Y hY2
    have hpz : ((2 : Int) ^ S) = ((2 ^ S : Nat) : Int) := by simp
    have hpz2 : ((2 : Int) ^ (64 - S)) = ((2 ^ (64 - S) : Nat) : Int) := by simp
    refine Calls.mono (R := fun e w' => e = .returned (.tuple #[.int .u64 (((Hi : Int) * 18446744073709551616 + Lo) / y), .int .u64 (((Hi : Int) * 18446744073709551616 + Lo) % y)]) ∧ w = w') ?_ (fun e w' h => ⟨h.1, 0, h.2.symm⟩)
    refine div64_core Hi Lo y Y U L (Y / 4294967296) (Y % 4294967296) _ _ _ _ S h0 h2 h3 h4 h5 (by omega) (Lib.hid hlead) ?_ (by omega) (by omega) ?_ (by omega) (by omega) ?_ (by omega) (by omega)
      rfl ?_ ?_ (by omega) (by omega) (by omega) (by omega) (Lib.hid rfl) (Lib.hid rfl) (Lib.hid rfl) (Lib.hid rfl) (Lib.hid rfl) hR1 hR2 e1 e2 e3 e4 ?_ w _ _ (Lib.hid ?_) (Lib.hid ?_)
    · rw [hpz, ← Int.natCast_mul, hYY, IntKind.wrap_u64]; omega
    · rw [hpz, ← Int.natCast_mul, IntKind.wrap_u64]; omega
    · rw [hpz, ← Int.natCast_mul, wrapN _ hhi, hpz2, ← Int.natCast_ediv]; exact eU
    · rw [hm]; omega
    · rw [mask32 L hL2]; omega
    · exact Int.emod_nonneg _ (by omega)
    · rw [d1, f1]
    · rw [d2, f3]
  · have e : hi = 0 := by omega
    subst e
    refine (div64_zero lo y h2 h3 h4 h5 w).mono fun e w' h => ?_
    rw [Int.zero_mul, Int.zero_add]
    exact h

end Go.Proofs.Ytfeoppbincldfaa
