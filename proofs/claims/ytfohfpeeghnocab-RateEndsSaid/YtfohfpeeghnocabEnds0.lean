/- Package rate: where a float stands; the reference's comparison of two floats. -/
import Derived.Test.YtfohfpeeghnocabOrd
import Derived.Test.YtfohfpeeghnocabROf
namespace Go.Proofs.Ytfohfpeeghnocab
open Go.RowKit

theorem place_pos (b : Nat) (v : Int) (hn : (bits BinOp.and IntKind.u64 (b : Int) 9223372036854775808 != 0) = false) (hv : bits BinOp.or IntKind.u64 (b : Int) 9223372036854775808 = v) (w : World) :
    Calls Try.prog 42 #[.float .f64 b] w fun e w' => e = .returned (.int .u64 v) ∧ w = w' := by
  have hb := fun W => f64bits_eq b W
  go_enter Try.func42, Try.ntmps42
  go_wp2
  go_ret
  exact ⟨by rw [← hv]; rfl, rfl⟩
theorem place_neg (b : Nat) (v : Int) (hn : (bits BinOp.and IntKind.u64 (b : Int) 9223372036854775808 != 0) = true) (hv : bits BinOp.xor IntKind.u64 IntKind.u64.max (b : Int) = v) (w : World) :
    Calls Try.prog 42 #[.float .f64 b] w fun e w' => e = .returned (.int .u64 v) ∧ w = w' := by
  have hb := fun W => f64bits_eq b W
  go_enter Try.func42, Try.ntmps42
  go_wp2
  go_ret
  exact ⟨by rw [← hv]; rfl, rfl⟩

theorem xor_max (b : Nat) (h : b < 18446744073709551616) : bits BinOp.xor IntKind.u64 IntKind.u64.max (b : Int) = ((18446744073709551615 - b : Nat) : Int) := by
  have e1 : BitVec.ofInt 64 18446744073709551615 = BitVec.allOnes 64 := by decide
  have e2 : (BitVec.ofInt 64 (b : Int)).toNat = b := by rw [BitVec.toNat_ofInt]; omega
  show IntKind.u64.wrap ((BitVec.ofInt 64 18446744073709551615 ^^^ BitVec.ofInt 64 (b : Int)).toNat : Nat) = _
  rw [e1, BitVec.allOnes_xor, BitVec.toNat_not, e2, IntKind.wrap_u64]
  omega
theorem or_sign (b : Nat) (h : b < 9223372036854775808) : bits BinOp.or IntKind.u64 (b : Int) 9223372036854775808 = ((b + 9223372036854775808 : Nat) : Int) := by
  have e2 := u64_or_nat b 9223372036854775808 (by omega) (by omega)
  have e3 : b ||| 9223372036854775808 = b + 9223372036854775808 := by
    have := Nat.two_pow_add_eq_or_of_lt (i := 63) (show b < 2 ^ 63 by omega) 1
    rw [Nat.mul_one] at this
    rw [Nat.or_comm]
    exact this.symm.trans (by omega)
  rw [e3] at e2
  exact e2
theorem place_ret {b : Nat} (h : b < 18446744073709551616) : RetQ 42 #[.float .f64 b] (.int .u64 ((pl b : Nat) : Int)) := fun w => by
  have hs := sign_at h
  unfold pl
  by_cases hh : 9223372036854775808 ≤ b
  · rw [decide_eq_true hh] at hs
    rw [if_pos hh]
    exact place_neg b _ hs (xor_max b h) w
  · rw [decide_eq_false hh] at hs
    rw [if_neg hh]
    exact place_pos b _ hs (or_sign b (by omega)) w

theorem less_walk (a b : Int) (am bm x : Bool) (ha : decide (9223372036854775808 ≤ a) = am) (hb : decide (9223372036854775808 ≤ b) = bm) (hx : x = if am != bm then am else if am then decide (b < a) else decide (a < b)) (w : World) :
    Calls Try.prog 31 #[.int .u64 a, .int .u64 b] w fun e w' => e = .returned (.bool x) ∧ w = w' := by
  subst hx
  cases am <;> cases bm
  all_goals
    go_enter Try.func31, Try.ntmps31
    go_wp2
    go_ret
    exact ⟨rfl, rfl⟩

theorem less_ret {a b : Nat} (ha : a < 18446744073709551616) (hb : b < 18446744073709551616) : RetQ 31 #[.int .u64 (a : Int), .int .u64 (b : Int)] (.bool (decide (pl a < pl b))) := fun w => by
  refine less_walk (a : Int) (b : Int) (decide (9223372036854775808 ≤ a)) (decide (9223372036854775808 ≤ b)) _ (decide_eq_decide.2 (by omega)) (decide_eq_decide.2 (by omega)) ?_ w
  unfold pl
  by_cases h1 : 9223372036854775808 ≤ a <;> by_cases h2 : 9223372036854775808 ≤ b <;> simp [h1, h2] <;> omega

end Go.Proofs.Ytfohfpeeghnocab
