/- Package ether, in plain numbers: the frame that a text tells of; the frame of bytes. -/
import Derived.Test.YtbpkjljienadiaaESub
namespace Go.Proofs.Ytbpkjljienadiaa
open Go.RowKit

/-- The number of the two bytes at a place. -/
def n2 (xs : List Nat) (o : Nat) : Nat := num [xs.getD o 0, xs.getD (o + 1) 0]
theorem n2_eq (xs : List Nat) (o : Nat) : n2 xs o = xs.getD o 0 * 256 + xs.getD (o + 1) 0 := by
  show (0 * 256 + xs.getD o 0) * 256 + xs.getD (o + 1) 0 = _; omega
theorem n2_lt {xs : List Nat} (h : Crc.Bytes xs) (o : Nat) : n2 xs o < 65536 := by
  have h1 := Crc.getD_byte h o
  have h2 := Crc.getD_byte h (o + 1)
  rw [n2_eq]; omega
namespace Fr
def at1 (xs : List Nat) : Nat := if n2 xs 12 = 33024 then 16 else 12
def at2 (xs : List Nat) : Nat := if n2 xs (at1 xs) = 61889 then at1 xs + 6 else at1 xs
def parse (xs : List Nat) : Fr where
  d0 := xs.getD 0 0
  d1 := xs.getD 1 0
  d2 := xs.getD 2 0
  d3 := xs.getD 3 0
  d4 := xs.getD 4 0
  d5 := xs.getD 5 0
  s0 := xs.getD 6 0
  s1 := xs.getD 7 0
  s2 := xs.getD 8 0
  s3 := xs.getD 9 0
  s4 := xs.getD 10 0
  s5 := xs.getD 11 0
  tg := decide (n2 xs 12 = 33024)
  vid := if n2 xs 12 = 33024 then ((n2 xs 14 % 4096 : Nat) : Int) else 0
  prio := if n2 xs 12 = 33024 then ((n2 xs 14 / 8192 : Nat) : Int) else 0
  dr := decide (n2 xs 12 = 33024) && decide (n2 xs 14 / 4096 % 2 = 1)
  mn := decide (n2 xs (at1 xs) = 61889)
  seq := if n2 xs (at1 xs) = 61889 then ((n2 xs (at1 xs + 4) : Nat) : Int) else 0
  typ := ((n2 xs (at2 xs) : Nat) : Int)
  data := (xs.drop (at2 xs + 4)).take (n2 xs (at2 xs + 2))

theorem at1_le (xs : List Nat) : at1 xs ≤ 16 := by unfold at1; split <;> omega
theorem at2_le (xs : List Nat) : at2 xs ≤ 22 := by have := at1_le xs; unfold at2; split <;> omega
theorem parse_wf {xs : List Nat} (h : Crc.Bytes xs) : (parse xs).Wf := by
  refine ⟨?_, ?_, ?_⟩
  · intro x hx
    have hb := fun i => Crc.getD_byte h i
    simp only [heads, parse, List.mem_cons, List.not_mem_nil, or_false] at hx
    rcases hx with rfl | rfl | rfl | rfl | rfl | rfl | rfl | rfl | rfl | rfl | rfl | rfl <;> exact hb _
  · intro x hx
    exact h x (List.mem_of_mem_drop (List.mem_of_mem_take hx))
  · have h1 := n2_lt h 14
    have h2 := n2_lt h (at1 xs + 4)
    have h3 := n2_lt h (at2 xs)
    unfold parse
    dsimp only
    refine ⟨?_, ?_, ?_, ?_, ?_, ?_, ?_, ?_⟩ <;> (try split) <;> omega
end Fr

theorem i64_and_nat (a b : Nat) (ha : a < 4611686018427387904) (hb : b < 4611686018427387904) : bits .and .i64 (a : Int) (b : Int) = ((a &&& b : Nat) : Int) := by
  have h : a &&& b ≤ a := Nat.and_le_left
  show IntKind.i64.wrap ((BitVec.ofInt 64 (a : Int) &&& BitVec.ofInt 64 (b : Int)).toNat : Nat) = _
  rw [BitVec.toNat_and, BitVec.toNat_ofInt, BitVec.toNat_ofInt, show ((a : Int) % ((2 ^ 64 : Nat) : Int)).toNat = a by omega, show ((b : Int) % ((2 ^ 64 : Nat) : Int)).toNat = b by omega, IntKind.wrap_i64]
  omega
theorem and_4095 (h : Nat) (hh : h < 65536) : bits .and .i64 (h : Int) 4095 = ((h % 4096 : Nat) : Int) := by
  have := i64_and_nat h 4095 (by omega) (by omega)
  rw [show (4095 : Nat) = 2 ^ 12 - 1 by decide, Nat.and_two_pow_sub_one_eq_mod] at this
  exact this
theorem and_4096 (h : Nat) (hh : h < 65536) : (bits .and .i64 (h : Int) 4096 != 0) = decide (h / 4096 % 2 = 1) := by
  have := i64_and_nat h 4096 (by omega) (by omega)
  have e : h &&& 4096 = if h / 4096 % 2 = 1 then 4096 else 0 := by
    have h3 : h.testBit 12 = decide (h / 4096 % 2 = 1) := by rw [Nat.testBit_eq_decide_div_mod_eq]
    apply Nat.eq_of_testBit_eq
    intro i
    rw [show (4096 : Nat) = 2 ^ 12 by decide, Nat.testBit_and, Nat.testBit_two_pow]
    by_cases hi : 12 = i
    · subst hi
      rw [h3]
      by_cases g : h / 4096 % 2 = 1
      · rw [if_pos (by simpa using g), decide_eq_true g, Nat.testBit_two_pow, Bool.true_and]
      · rw [if_neg (by simpa using g), decide_eq_false g]; simp
    · rw [decide_eq_false hi, Bool.and_false]
      split
      · rw [Nat.testBit_two_pow, decide_eq_false hi]
      · simp
  rw [show (4096 : Int) = ((4096 : Nat) : Int) from rfl, this, e]
  by_cases g : h / 4096 % 2 = 1
  · rw [if_pos g, decide_eq_true g]; rfl
  · rw [if_neg g, decide_eq_false g]; rfl

end Go.Proofs.Ytbpkjljienadiaa
