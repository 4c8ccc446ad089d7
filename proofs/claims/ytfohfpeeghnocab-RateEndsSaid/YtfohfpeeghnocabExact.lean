/- A whole number of at most 48 bits as a float, and that float by 2 to the power of 35: both are exact. -/
import Derived.Test.YtfohfpeeghnocabRq
namespace Go.Proofs.Ytfohfpeeghnocab

theorem cut_exact (neg : Bool) (n drop q : Nat) (hd : drop ≤ n.log2 + 2) (h : n = q * 2 ^ drop) : Ieee.Toward.even.cut neg n drop = q := by
  have hp := Nat.two_pow_pos drop
  unfold Ieee.Toward.cut
  rw [Nat.min_eq_left hd, Nat.shiftLeft_eq, Nat.one_mul]
  dsimp only
  have e1 : n / 2 ^ drop = q := by rw [h, Nat.mul_div_cancel _ hp]
  have e2 : n % 2 ^ drop = 0 := by rw [h, Nat.mul_mod_left]
  rw [e1, e2]
  have : (decide (2 ^ drop < 2 * 0) || (2 ^ drop == 2 * 0) && (q % 2 == 1)) = false := by
    rw [decide_eq_false (by omega), Bool.false_or]
    have : (2 ^ drop == 2 * 0) = false := by rw [beq_eq_false_iff_ne]; omega
    rw [this]; rfl
  rw [this]; rfl

/-- The float of a whole number. -/
theorem nearest_int (n : Nat) (neg : Bool) (h0 : 0 < n) (h1 : n < 281474976710656) :
    Ieee.double.nearest neg n 0 = Ieee.double.word neg ((n.log2 + 1022) * 4503599627370496 + n * 2 ^ (52 - n.log2)) ∧ n.log2 ≤ 47 ∧
    4503599627370496 ≤ n * 2 ^ (52 - n.log2) ∧ n * 2 ^ (52 - n.log2) < 9007199254740992 := by
  have hl1 := Nat.log2_self_le (show n ≠ 0 by omega)
  have hl2 : n < 2 ^ (n.log2 + 1) := Nat.lt_log2_self
  have hl3 : n.log2 ≤ 47 := by
    refine Nat.le_of_lt_succ (Nat.log2_lt (by omega) |>.2 ?_)
    exact h1
  have hb : Ieee.double.binade = 4503599627370496 := by decide
  have hi : Ieee.double.infRung = 9218868437227405312 := by decide
  have hl : Ieee.double.leastPlace = -1074 := by decide
  have hf : Ieee.double.fractionBits = 52 := rfl
  have hp : 2 ^ n.log2 * 2 ^ (52 - n.log2) = 4503599627370496 := by
    rw [← Nat.pow_add, show n.log2 + (52 - n.log2) = 52 by omega]
  have hp2 : 2 ^ (n.log2 + 1) * 2 ^ (52 - n.log2) = 9007199254740992 := by
    rw [← Nat.pow_add, show n.log2 + 1 + (52 - n.log2) = 53 by omega]
  have hk1 : 4503599627370496 ≤ n * 2 ^ (52 - n.log2) := by rw [← hp]; exact Nat.mul_le_mul_right _ hl1
  have hk2 : n * 2 ^ (52 - n.log2) < 9007199254740992 := by rw [← hp2]; exact Nat.mul_lt_mul_of_pos_right hl2 (Nat.two_pow_pos _)
  refine ⟨?_, hl3, hk1, hk2⟩
  unfold Ieee.Format.nearest
  rw [if_neg (by omega), hb, hi, hl, hf]
  dsimp only
  have e1 : max (0 + (n.log2 : Int) - (52 : Nat)) (-1074) = (n.log2 : Int) - 52 := by omega
  rw [e1]
  have e2 : (0 - ((n.log2 : Int) - 52)).toNat = 52 - n.log2 := by omega
  have e3 : (((n.log2 : Int) - 52) - 0).toNat = 0 := by omega
  have e4 : (((n.log2 : Int) - 52) - -1074).toNat = n.log2 + 1022 := by omega
  rw [e2, e3, e4, cut_exact neg (n <<< (52 - n.log2)) 0 (n * 2 ^ (52 - n.log2)) (by omega) (by rw [Nat.shiftLeft_eq, Nat.pow_zero, Nat.mul_one])]
  rw [Nat.min_eq_left (by omega)]

def wordOf (neg : Bool) (r : Nat) : Nat := if neg then 9223372036854775808 + r else r
theorem word_eq (neg : Bool) (r : Nat) : Ieee.double.word neg r = wordOf neg r := by
  have hw : Ieee.double.signWeight = 9223372036854775808 := by decide
  unfold Ieee.Format.word wordOf
  rw [hw]
theorem word_rung (neg : Bool) (r : Nat) (h : r < 9223372036854775808) : rung (wordOf neg r) = r ∧ wordOf neg r < 18446744073709551616 ∧ decide (9223372036854775808 ≤ wordOf neg r) = neg := by
  unfold rung wordOf
  cases neg
  · simp; omega
  · simp; omega

theorem read_word (neg : Bool) (e M : Nat) (h1 : 4503599627370496 ≤ M) (h2 : M < 9007199254740992) (he : e ≤ 2045) :
    Ieee.double.read (wordOf neg (e * 4503599627370496 + M)) = .number neg M ((e : Int) - 1074) := by
  obtain ⟨r1, r2, r3⟩ := word_rung neg (e * 4503599627370496 + M) (by omega)
  obtain ⟨m, j, e1, _, e3, e4⟩ := read_fin (b := wordOf neg (e * 4503599627370496 + M)) ⟨r2, by rw [r1]; omega⟩
  rw [r1] at e3 e4
  rw [r3] at e1
  rw [if_neg (by omega)] at e3 e4
  have e5 : wordOf neg (e * 4503599627370496 + M) % 4503599627370496 = M - 4503599627370496 := by
    unfold wordOf; cases neg <;> simp <;> omega
  rw [e5] at e3
  have e6 : m = M := by omega
  have e7 : j = e := by omega
  rw [e1, e6, e7]

/-- By 2 to the power of 35. -/
theorem div_exact (neg : Bool) (l M : Nat) (h1 : 4503599627370496 ≤ M) (h2 : M < 9007199254740992) (hl : l ≤ 47) :
    Ieee.double.div (wordOf neg ((l + 1022) * 4503599627370496 + M)) 4764808405757984768 = some (wordOf neg ((l + 987) * 4503599627370496 + M)) := by
  have hM : M.log2 = 52 := by
    have a := Nat.log2_lt (n := M) (k := 53) (by omega) |>.2 h2
    have b := Nat.le_log2 (n := M) (k := 52) (by omega) |>.2 h1
    omega
  have e35 : (4764808405757984768 : Nat) = wordOf false (1057 * 4503599627370496 + 4503599627370496) := by decide
  unfold Ieee.Format.div
  rw [e35, read_word neg (l + 1022) M h1 h2 (by omega), read_word false 1057 4503599627370496 (by omega) (by omega) (by omega)]
  have hf : Ieee.double.fractionBits = 52 := rfl
  rw [hf]
  have hlog : (4503599627370496 : Nat).log2 = 52 := by decide
  have hq : Ieee.Datum.quotient (52 + 2) (.number neg M (((l + 1022 : Nat) : Int) - 1074)) (.number false 4503599627370496 (((1057 : Nat) : Int) - 1074)) = some (.number neg (8 * M) ((l : Int) - 90)) := by
    unfold Ieee.Datum.quotient
    dsimp only
    rw [if_neg (by omega), hlog, hM, Nat.shiftLeft_eq]
    have e1 : M * 2 ^ (52 + 2 + 52 - 52) = 4 * M * 4503599627370496 := by
      rw [show (52 + 2 + 52 - 52 : Nat) = 2 + 52 from rfl, Nat.pow_add, ← Nat.mul_assoc, Nat.mul_comm M]
    rw [e1, Nat.mul_div_cancel _ (by omega), Nat.mul_mod_left]
    have e2 : 2 * (4 * M) + ((0 : Nat) != 0).toNat = 8 * M := by
      have : ((0 : Nat) != 0).toNat = 0 := rfl
      rw [this]; omega
    have e3 : ((l + 1022 : Nat) : Int) - 1074 - (((1057 : Nat) : Int) - 1074) - ((52 + 2 + 52 - 52 : Nat) : Int) - 1 = (l : Int) - 90 := by omega
    have e4 : (neg ^^ false) = neg := by cases neg <;> rfl
    rw [e2, e3, e4]
  rw [hq]
  have hb : Ieee.double.binade = 4503599627370496 := by decide
  have hi : Ieee.double.infRung = 9218868437227405312 := by decide
  have hL : Ieee.double.leastPlace = -1074 := by decide
  have h8 : (8 * M).log2 = 55 := by
    have a := Nat.log2_lt (n := 8 * M) (k := 56) (by omega) |>.2 (by omega)
    have b := Nat.le_log2 (n := 8 * M) (k := 55) (by omega) |>.2 (by omega)
    omega
  have hn : Ieee.double.nearest neg (8 * M) ((l : Int) - 90) = wordOf neg ((l + 987) * 4503599627370496 + M) := by
    unfold Ieee.Format.nearest
    rw [if_neg (by omega), hb, hi, hL, hf, h8]
    dsimp only
    have e1 : max ((l : Int) - 90 + ((55 : Nat) : Int) - ((52 : Nat) : Int)) (-1074) = (l : Int) - 87 := by omega
    rw [e1]
    have e2 : ((l : Int) - 90 - ((l : Int) - 87)).toNat = 0 := by omega
    have e3 : ((l : Int) - 87 - ((l : Int) - 90)).toNat = 3 := by omega
    have e4 : ((l : Int) - 87 - -1074).toNat = l + 987 := by omega
    rw [e2, e3, e4, Nat.shiftLeft_zero, cut_exact neg (8 * M) 3 M (by omega) (by omega), Nat.min_eq_left (by omega), word_eq]
  show some (Ieee.double.nearest neg (8 * M) ((l : Int) - 90)) = _
  rw [hn]

theorem val_word (l M : Nat) (h1 : 4503599627370496 ≤ M) (h2 : M < 9007199254740992) : val (l * 4503599627370496 + M) = M * 2 ^ l := by
  unfold val
  rw [if_neg (by omega)]
  have e1 : (l * 4503599627370496 + M) % 4503599627370496 = M - 4503599627370496 := by omega
  have e2 : (l * 4503599627370496 + M) / 4503599627370496 - 1 = l := by omega
  rw [e1, e2, show 4503599627370496 + (M - 4503599627370496) = M by omega]

end Go.Proofs.Ytfohfpeeghnocab
