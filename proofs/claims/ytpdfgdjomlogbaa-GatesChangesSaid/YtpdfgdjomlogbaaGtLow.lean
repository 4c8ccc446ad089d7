/- The low bits of an int; what is told of a list whose base is moved, or a cycle later. -/
import Derived.Test.YtpdfgdjomlogbaaGtHead
namespace Go.Proofs.Ytpdfgdjomlogbaa
open Go.RowKit

theorem and_low (n : Int) (k : Nat) (hk : k < 63) : bits .and .i64 n ((2 ^ k - 1 : Nat) : Int) = n % ((2 ^ k : Nat) : Int) := by
  have hp : 2 ^ k ≤ 2 ^ 62 := Nat.pow_le_pow_right (by omega) (by omega)
  have hpos := Nat.two_pow_pos k
  have hm : (BitVec.ofInt 64 ((2 ^ k - 1 : Nat) : Int)).toNat = 2 ^ k - 1 := by
    rw [BitVec.toNat_ofInt]; omega
  have hd : (2 ^ k : Nat) ∣ 2 ^ 64 := Nat.pow_dvd_pow 2 (by omega)
  have key : (BitVec.ofInt 64 n &&& BitVec.ofInt 64 ((2 ^ k - 1 : Nat) : Int)).toNat = (n % ((2 ^ 64 : Nat) : Int)).toNat % 2 ^ k := by
    rw [BitVec.toNat_and, BitVec.toNat_ofInt, hm, Nat.and_two_pow_sub_one_eq_mod]
  show IntKind.i64.wrap ((BitVec.ofInt 64 n &&& BitVec.ofInt 64 ((2 ^ k - 1 : Nat) : Int)).toNat : Nat) = _
  rw [key, IntKind.wrap_i64]
  have e : (((n % ((2 ^ 64 : Nat) : Int)).toNat % 2 ^ k : Nat) : Int) = n % ((2 ^ k : Nat) : Int) := by
    rw [Int.natCast_emod, Int.toNat_of_nonneg (Int.emod_nonneg _ (by simp))]
    exact Int.emod_emod_of_dvd _ (Int.natCast_dvd_natCast.2 hd)
  rw [e]
  have h1 := Int.emod_nonneg n (show ((2 ^ k : Nat) : Int) ≠ 0 by omega)
  have h2 := Int.emod_lt_of_pos n (show (0 : Int) < ((2 ^ k : Nat) : Int) by omega)
  generalize n % ((2 ^ k : Nat) : Int) = z at *
  omega
theorem low24 (n : Int) : bits .and .i64 n 16777215 = n % 16777216 := and_low n 24 (by omega)
theorem low32 (n : Int) : bits .and .i64 n 4294967295 = n % 4294967296 := and_low n 32 (by omega)
theorem low3 (n : Int) : bits .and .i64 n 7 = n % 8 := and_low n 3 (by omega)

section
variable {b c : Int} {ts : List (Int × Int)} {x y g : Int}
theorem state_shift (h1 : Tells b c ts x) (h2 : Tells (b + y) c ts (x + y)) : stateV (b + y) c ts (x + y) = stateV b c ts x := by
  unfold stateV
  rw [if_pos h2, if_pos h1, gone_shift]
theorem left_shift (h1 : Tells b c ts x) (h2 : Tells (b + y) c ts (x + y)) : leftV (b + y) c ts (x + y) g = leftV b c ts x g := by
  unfold leftV
  by_cases hg : isG g
  · rw [if_pos (show Tells (b + y) c ts (x + y) ∧ isG g from ⟨h2, hg⟩), if_pos (show Tells b c ts x ∧ isG g from ⟨h1, hg⟩), gone_shift]
  · rw [if_neg (fun k => hg k.2), if_neg (fun k => hg k.2)]
theorem next_shift (h1 : Tells b c ts x) (h2 : Tells (b + y) c ts (x + y)) : nextV (b + y) c ts (x + y) g = nextV b c ts x g := by
  unfold nextV
  by_cases hg : isG g
  · rw [if_pos (show Tells (b + y) c ts (x + y) ∧ isG g from ⟨h2, hg⟩), if_pos (show Tells b c ts x ∧ isG g from ⟨h1, hg⟩), gone_shift]
  · rw [if_neg (fun k => hg k.2), if_neg (fun k => hg k.2)]
end

end Go.Proofs.Ytpdfgdjomlogbaa
