/- RateBetween: two clocks that come as far run at One; of one that came further the rate is the greater. -/
import Derived.Test.YtfohfpeeghnocabNearest
namespace Go.Proofs.Ytfohfpeeghnocab
open Go.RowKit

set_option maxHeartbeats 1000000 in
theorem btw_go (a b m A b1 B M S y z x v : Int) (lt : Bool)
    (hA : wrap64 (1000000 + bits BinOp.and IntKind.i64 a 4294967295) = A) (hB1 : bits BinOp.and IntKind.i64 b 1023 = b1) (hB : wrap64 (wrap64 (A + b1) - 512) = B)
    (hM : bits BinOp.and IntKind.i64 m 255 = M) (hS : wrap64 (A + M) = S)
    (hyz : decide (y ≤ z) = true) (hd : wrap64 (y - v) = y - v) (hd1 : decide (-2 ≤ y - v) = true) (hd2 : decide (y - v ≤ 2) = true)
    (h1 : decide (y < 2199023255552) = lt) (h2 : decide (A < B) = lt)
    (H0 : Ret 27 #[.int .i64 5, .int .i64 5] (.tuple #[.int .i64 2199023255552, .int .i64 0]))
    (H1 : Ret 27 #[.int .i64 A, .int .i64 B] (.tuple #[.int .i64 y, .int .i64 0]))
    (H2 : Ret 27 #[.int .i64 S, .int .i64 B] (.tuple #[.int .i64 z, .int .i64 0]))
    (H3 : Ret 27 #[.int .i64 B, .int .i64 A] (.tuple #[.int .i64 x, .int .i64 0]))
    (H4 : Ret 26 #[.int .i64 x] (.tuple #[.int .i64 v, .int .i64 0])) (w : World) :
    Calls Try.prog 9 #[.int .i64 a, .int .i64 b, .int .i64 m] w fun e w' => e = .returned (.bool true) ∧ Below w.heap.size w w' := by
  have HH := bRef w
  go_enter Try.func9, Try.ntmps9
  go_wp2_with (first
    | (go_at_call 27; (with_reducible refine (H0.go _).mono ?_); rintro e wx ⟨rfl, hb⟩; (first | replace HH := bTr HH hb | replace HH := bTr (bDr HH _) hb); clear hb)
    | (go_at_call 27; (with_reducible refine (H1.go _).mono ?_); rintro e wx ⟨rfl, hb⟩; (first | replace HH := bTr HH hb | replace HH := bTr (bDr HH _) hb); clear hb)
    | (go_at_call 27; (with_reducible refine (H2.go _).mono ?_); rintro e wx ⟨rfl, hb⟩; (first | replace HH := bTr HH hb | replace HH := bTr (bDr HH _) hb); clear hb)
    | (go_at_call 27; (with_reducible refine (H3.go _).mono ?_); rintro e wx ⟨rfl, hb⟩; (first | replace HH := bTr HH hb | replace HH := bTr (bDr HH _) hb); clear hb)
    | (go_at_call 26; (with_reducible refine (H4.go _).mono ?_); rintro e wx ⟨rfl, hb⟩; (first | replace HH := bTr HH hb | replace HH := bTr (bDr HH _) hb); clear hb))
  go_ret
  exact ⟨by simp, HH⟩

theorem and_low (n : Int) (k : Nat) (hk : k < 63) : bits .and .i64 n ((2 ^ k - 1 : Nat) : Int) = n % ((2 ^ k : Nat) : Int) := by
  have hp : 2 ^ k ≤ 2 ^ 62 := Nat.pow_le_pow_right (by omega) (by omega)
  have hpos := Nat.two_pow_pos k
  have hm : (BitVec.ofInt 64 ((2 ^ k - 1 : Nat) : Int)).toNat = 2 ^ k - 1 := by
    rw [BitVec.toNat_ofInt]; omega
  have hd : (2 ^ k : Nat) ∣ 2 ^ 64 := Nat.pow_dvd_pow 2 (by omega)
  have key : (BitVec.ofInt 64 n &&& BitVec.ofInt 64 ((2 ^ k - 1 : Nat) : Int)).toNat = (n % ((2 ^ 64 : Nat) : Int)).toNat % 2 ^ k := by
    rw [BitVec.toNat_and, BitVec.toNat_ofInt, hm, Nat.and_two_pow_sub_one_eq_mod]
  show IntKind.i64.wrap ((BitVec.ofInt 64 n &&& BitVec.ofInt 64 ((2 ^ k - 1 : Nat) : Int)).toNat : Nat) = _
  rw [key, IntKind.wrap_i64]
  have e : (((n % ((2 ^ 64 : Nat) : Int)).toNat % 2 ^ k : Nat) : Int) = n % ((2 ^ k : Nat) : Int) := by
    rw [Int.natCast_emod, Int.toNat_of_nonneg (Int.emod_nonneg _ (by simp))]
    exact Int.emod_emod_of_dvd _ (Int.natCast_dvd_natCast.2 hd)
  rw [e]
  have h1 := Int.emod_nonneg n (show ((2 ^ k : Nat) : Int) ≠ 0 by omega)
  have h2 := Int.emod_lt_of_pos n (show (0 : Int) < ((2 ^ k : Nat) : Int) by omega)
  generalize n % ((2 ^ k : Nat) : Int) = z at *
  omega

theorem bt_near (a b : Int) (ha : 0 ≤ a) (hb : 0 < b) (h1 : 999000 ≤ b) (h2 : b - 800 ≤ a) (h3 : a ≤ b + 800) (h4 : b < 8589934592) :
    2 * (a * 2199023255552) - b ≤ 2 * (btV a b * b) ∧ 2 * (btV a b * b) ≤ 2 * (a * 2199023255552) + b ∧ Right (btV a b) ∧ btE a b = 0 ∧ (btV a b < 2199023255552 ↔ a < b) := by
  obtain ⟨q, q0, q1, q2, q3⟩ := near_nn a 2199023255552 b ha (by omega) hb
  have r1 : q ≤ 2216203124736 := by
    refine Int.not_lt.1 fun h => ?_
    have := Int.mul_le_mul_of_nonneg_right (show 2216203124737 ≤ q by omega) (show 0 ≤ b by omega)
    omega
  have r2 : 2181843386368 ≤ q := by
    refine Int.not_lt.1 fun h => ?_
    have := Int.mul_le_mul_of_nonneg_right (show q ≤ 2181843386367 by omega) (show 0 ≤ b by omega)
    omega
  obtain ⟨e1, e2⟩ := q3 (by omega)
  have hR : Right q := ⟨r2, r1⟩
  have eV : btV a b = q := by
    unfold btV
    rw [if_neg (by omega), if_neg (by rw [e1]; simp), e2, if_pos hR]
  have eE : btE a b = 0 := by
    unfold btE
    rw [if_neg (by omega), if_neg (by rw [e1]; simp), e2, if_pos hR]
  rw [eV]
  refine ⟨q1, q2, hR, eE, ?_⟩
  constructor
  · intro h
    refine Int.not_le.1 fun hh => ?_
    have := Int.mul_le_mul_of_nonneg_right (show q ≤ 2199023255551 by omega) (show 0 ≤ b by omega)
    omega
  · intro h
    refine Int.not_le.1 fun hh => ?_
    have := Int.mul_le_mul_of_nonneg_right hh (show 0 ≤ b by omega)
    omega

theorem inv_near (x : Int) (hx : Right x) :
    2 * (2199023255552 * 2199023255552) - x ≤ 2 * (rV 2199023255552 2199023255552 x * x) ∧ 2 * (rV 2199023255552 2199023255552 x * x) ≤ 2 * (2199023255552 * 2199023255552) + x ∧
    0 ≤ rV 2199023255552 2199023255552 x ∧ rV 2199023255552 2199023255552 x ≤ 3000000000000 ∧ rE 2199023255552 2199023255552 x = 0 := by
  obtain ⟨q, q0, q1, q2, q3⟩ := near_nn 2199023255552 2199023255552 x (by omega) (by omega) (by unfold Right at hx; omega)
  unfold Right at hx
  have r1 : q ≤ 3000000000000 := by
    refine Int.not_lt.1 fun h => ?_
    have h1 := Int.mul_le_mul_of_nonneg_right (show 3000000000000 ≤ q by omega) (show 0 ≤ x by omega)
    omega
  obtain ⟨e1, e2⟩ := q3 (by omega)
  rw [e2]
  exact ⟨q1, q2, q0, r1, e1⟩

theorem btw_walk (a b m : Int) (_ : -9223372036854775808 ≤ a) (_ : a < 9223372036854775808) (_ : -9223372036854775808 ≤ b) (_ : b < 9223372036854775808) (_ : -9223372036854775808 ≤ m) (_ : m < 9223372036854775808) (w : World) :
    Calls Try.prog 9 #[.int .i64 a, .int .i64 b, .int .i64 m] w fun e w' => e = .returned (.bool true) ∧ Below w.heap.size w w' := by
  have ea := and_low a 32 (by omega)
  have eb := and_low b 10 (by omega)
  have em := and_low m 8 (by omega)
  change bits .and .i64 a 4294967295 = a % 4294967296 at ea
  change bits .and .i64 b 1023 = b % 1024 at eb
  change bits .and .i64 m 255 = m % 256 at em
  obtain ⟨A, hA⟩ : ∃ A : Int, A = 1000000 + a % 4294967296 := ⟨_, rfl⟩
  obtain ⟨B, hB⟩ : ∃ B : Int, B = A + b % 1024 - 512 := ⟨_, rfl⟩
  obtain ⟨M, hM⟩ : ∃ M : Int, M = m % 256 := ⟨_, rfl⟩
  have bA : 1000000 ≤ A ∧ A < 4295967296 := by omega
  have bB : A - 512 ≤ B ∧ B ≤ A + 511 := by omega
  have bM : 0 ≤ M ∧ M ≤ 255 := by omega
  obtain ⟨y1, y2, y3, y4, y5⟩ := bt_near A B (by omega) (by omega) (by omega) (by omega) (by omega) (by omega)
  obtain ⟨z1, z2, z3, z4, z5⟩ := bt_near (A + M) B (by omega) (by omega) (by omega) (by omega) (by omega) (by omega)
  obtain ⟨x1, x2, x3, x4, x5⟩ := bt_near B A (by omega) (by omega) (by omega) (by omega) (by omega) (by omega)
  have H0 := bt_ret (a := 5) (b := 5) ⟨by omega, by omega⟩ ⟨by omega, by omega⟩
  have e5 : btV 5 5 = 2199023255552 ∧ btE 5 5 = 0 := by decide
  have H1 := bt_ret (a := A) (b := B) ⟨by omega, by omega⟩ ⟨by omega, by omega⟩
  have H2 := bt_ret (a := A + M) (b := B) ⟨by omega, by omega⟩ ⟨by omega, by omega⟩
  have H3 := bt_ret (a := B) (b := A) ⟨by omega, by omega⟩ ⟨by omega, by omega⟩
  have hz : btV A B ≤ btV (A + M) B := by
    by_cases h0 : M = 0
    · rw [h0, Int.add_zero]; omega
    · refine Int.not_lt.1 fun h => ?_
      have := Int.mul_le_mul_of_nonneg_right (show btV (A + M) B ≤ btV A B - 1 by omega) (show 0 ≤ B by omega)
      rw [Int.sub_mul] at this
      omega
  obtain ⟨v1, v2, v3, v4, v5⟩ := inv_near (btV B A) x3
  have H4 := rInv_ret (a := btV B A) ⟨by unfold Right at x3; omega, by unfold Right at x3; omega⟩
  rw [e5.1, e5.2] at H0
  rw [y4] at H1
  rw [z4] at H2
  rw [x4] at H3
  rw [v5] at H4
  generalize btV A B = y at *
  generalize btV (A + M) B = z at *
  generalize btV B A = x at *
  generalize rV 2199023255552 2199023255552 x = v at *
  unfold Right at *
  have k1 : v * x * A = x * A * v := by rw [Int.mul_assoc, Int.mul_comm]
  have k2 := Int.mul_le_mul_of_nonneg_right v1 (show 0 ≤ A by omega)
  have k3 := Int.mul_le_mul_of_nonneg_right v2 (show 0 ≤ A by omega)
  have k4 := Int.mul_le_mul_of_nonneg_right x1 v3
  have k5 := Int.mul_le_mul_of_nonneg_right x2 v3
  have k6 := Int.mul_le_mul_of_nonneg_right v4 (show 0 ≤ A by omega)
  rw [Int.sub_mul, Int.mul_assoc 2 (v * x) A, k1] at k2
  rw [Int.add_mul, Int.mul_assoc 2 (v * x) A, k1] at k3
  rw [Int.sub_mul, Int.mul_assoc 2 (x * A) v, Int.mul_assoc 2, Int.mul_assoc B, Int.mul_comm 2199023255552 v, ← Int.mul_assoc B, Int.mul_comm A v] at k4
  rw [Int.add_mul, Int.mul_assoc 2 (x * A) v, Int.mul_assoc 2, Int.mul_assoc B, Int.mul_comm 2199023255552 v, ← Int.mul_assoc B, Int.mul_comm A v] at k5
  have d1 : -2 ≤ y - v := by
    refine Int.not_lt.1 fun h => ?_
    have k7 := Int.mul_le_mul_of_nonneg_right (show y + 3 ≤ v by omega) (show 0 ≤ B by omega)
    rw [Int.add_mul, Int.mul_comm v B] at k7
    omega
  have d2 : y - v ≤ 2 := by
    refine Int.not_lt.1 fun h => ?_
    have k7 := Int.mul_le_mul_of_nonneg_right (show v + 3 ≤ y by omega) (show 0 ≤ B by omega)
    rw [Int.add_mul, Int.mul_comm v B] at k7
    omega
  exact btw_go a b m A (b % 1024) B M (A + M) y z x v (decide (A < B)) (by rw [ea]; unfold wrap64; omega) eb (by unfold wrap64; omega) (by rw [em, hM]) (by unfold wrap64; omega)
    (decide_eq_true hz) (by unfold wrap64; omega) (decide_eq_true d1) (decide_eq_true d2) (decide_eq_decide.2 y5) rfl H0 H1 H2 H3 H4 w

end Go.Proofs.Ytfohfpeeghnocab
