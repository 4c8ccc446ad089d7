/- What the functions of math/bits that the program calls come to: sums and differences with a carry, the product, how many bits a number has, a quotient. -/
import Derived.Test.YtfeoppbincldfaaProg
import Derived.WalkKit
import Derived.WalkSpells
import Derived.WalkLawsBesides
import Derived.Laws.Externs
import Derived.Lib.Mul64
import Derived.Laws.Bits64b
import Derived.Lib.Hide
import Derived.Lib.BitFns
import Derived.Lib.Small
import Derived.Lib.Walk
namespace Go.Proofs.Ytfeoppbincldfaa
open Go.RowKit

theorem add64_eq (x y c : Int) (hx : 0 ≤ x) (hy : 0 ≤ y) (hc0 : 0 ≤ c) (hc : c ≤ 1) (w : World) :
    (callFunc 126 #[.int .u64 x, .int .u64 y, .int .u64 c]).run Try.prog w =
      .ok (.value (.tuple #[.int .u64 ((x + y + c) % 18446744073709551616), .int .u64 ((x + y + c) / 18446744073709551616)])) w := by
  rw [run_callFunc_extern Try.func126 (by kernel_rfl) (by kernel_rfl) (by kernel_rfl) (e := add64Entry) (by kernel_rfl), run_add64 x y c hx hy hc0 hc]
  rfl


theorem mask32 (a : Nat) (ha : a < 18446744073709551616) : bits .and .u64 (a : Int) 4294967295 = ((a % 4294967296 : Nat) : Int) := by
  have h := bits_and_u64_nat a 4294967295 ha (by omega)
  have e : a &&& 4294967295 = a % 4294967296 := Nat.and_two_pow_sub_one_eq_mod a 32
  rw [e] at h
  exact h

theorem ret_ii {k j : IntKind} {a b c d : Int} (h1 : a = b) (h2 : c = d) : Ending.returned (.tuple #[.int k a, .int j c]) = .returned (.tuple #[.int k b, .int j d]) := by rw [h1, h2]
theorem ret_i {k : IntKind} {a b : Int} (h : a = b) : Ending.returned (.int k a) = .returned (.int k b) := by rw [h]
theorem divN (a : Nat) : (a : Int) / 4294967296 = ((a / 4294967296 : Nat) : Int) := by omega
theorem wrapN (a : Nat) (ha : a < 18446744073709551616) : IntKind.u64.wrap (a : Int) = (a : Int) := by rw [IntKind.wrap_u64]; omega
theorem mulN (a b : Nat) : (a : Int) * (b : Int) = ((a * b : Nat) : Int) := (Int.natCast_mul a b).symm
theorem addN (a b : Nat) : (a : Int) + (b : Int) = ((a + b : Nat) : Int) := (Int.natCast_add a b).symm

theorem mul_hi (x y : Nat) (hx : x < 18446744073709551616) (hy : y < 18446744073709551616) :
    IntKind.u64.wrap (IntKind.u64.wrap (IntKind.u64.wrap ((x : Int) / 4294967296 * ((y : Int) / 4294967296)) +
      IntKind.u64.wrap (IntKind.u64.wrap ((x : Int) / 4294967296 * bits BinOp.and IntKind.u64 (y : Int) 4294967295) +
        IntKind.u64.wrap (bits BinOp.and IntKind.u64 (x : Int) 4294967295 * bits BinOp.and IntKind.u64 (y : Int) 4294967295) / 4294967296) / 4294967296) +
      IntKind.u64.wrap (bits BinOp.and IntKind.u64 (IntKind.u64.wrap (IntKind.u64.wrap ((x : Int) / 4294967296 * bits BinOp.and IntKind.u64 (y : Int) 4294967295) +
        IntKind.u64.wrap (bits BinOp.and IntKind.u64 (x : Int) 4294967295 * bits BinOp.and IntKind.u64 (y : Int) 4294967295) / 4294967296)) 4294967295 +
        IntKind.u64.wrap (bits BinOp.and IntKind.u64 (x : Int) 4294967295 * ((y : Int) / 4294967296))) / 4294967296) = (x : Int) * (y : Int) / 18446744073709551616 := by
  obtain ⟨bd, bt, bw, hhi⟩ := Lib.mul64_hi x y hx hy
  have ba := Lib.half_mul_le (a := x / 4294967296) (b := y / 4294967296) (by omega) (by omega)
  have bb := Lib.half_mul_le (a := x / 4294967296) (b := y % 4294967296) (by omega) (by omega)
  have bc := Lib.half_mul_le (a := x % 4294967296) (b := y / 4294967296) (by omega) (by omega)
  have bh1 : x / 4294967296 * (y / 4294967296) + (x / 4294967296 * (y % 4294967296) + x % 4294967296 * (y % 4294967296) / 4294967296) / 4294967296 < 18446744073709551616 := by omega
  have bh : x / 4294967296 * (y / 4294967296) + (x / 4294967296 * (y % 4294967296) + x % 4294967296 * (y % 4294967296) / 4294967296) / 4294967296 + ((x / 4294967296 * (y % 4294967296) + x % 4294967296 * (y % 4294967296) / 4294967296) % 4294967296 + x % 4294967296 * (y / 4294967296)) / 4294967296 < 18446744073709551616 := by omega
  simp only [mask32 x hx, mask32 y hy, divN, mulN, addN, wrapN _ bd, wrapN _ (show x / 4294967296 * (y % 4294967296) < 18446744073709551616 by omega), wrapN _ bt, mask32 _ bt, wrapN _ (show x % 4294967296 * (y / 4294967296) < 18446744073709551616 by omega), wrapN _ bw, wrapN _ (show x / 4294967296 * (y / 4294967296) < 18446744073709551616 by omega), wrapN _ bh1, wrapN _ bh]
  rw [hhi]
  omega

set_option maxHeartbeats 1000000 in
theorem mul64_any (x y : Int) (hx : 0 ≤ x) (hx2 : x < 18446744073709551616) (hy : 0 ≤ y) (hy2 : y < 18446744073709551616) (w : World) :
    Calls Try.prog 124 #[.int .u64 x, .int .u64 y] w fun e w' =>
      e = .returned (.tuple #[.int .u64 (x * y / 18446744073709551616), .int .u64 (x * y % 18446744073709551616)]) ∧ w = w' := by
  obtain ⟨X, rfl⟩ := Int.eq_ofNat_of_zero_le hx
  obtain ⟨Y, rfl⟩ := Int.eq_ofNat_of_zero_le hy
  go_enter Try.func124, Try.ntmps124
  go_wp2
  go_ret2
  exact ⟨ret_ii (mul_hi X Y (by omega) (by omega)) (IntKind.wrap_u64 _), rfl⟩


theorem bits_bounds (f : Nat) : ∀ x : Nat, 0 < x → x < 2 ^ f → 2 ^ (Lib.bitLenAux f x - 1) ≤ x ∧ x < 2 ^ Lib.bitLenAux f x ∧ 1 ≤ Lib.bitLenAux f x ∧ Lib.bitLenAux f x ≤ f := by
  induction f with
  | zero => intro x h1 h2; simp at h2; omega
  | succ f ih =>
    intro x h1 h2
    unfold Lib.bitLenAux
    rw [if_neg (by omega)]
    rcases Nat.eq_zero_or_pos (x / 2) with h | h
    · have hx : x = 1 := by omega
      subst hx
      have e : Lib.bitLenAux f (1 / 2) = 0 := by cases f <;> simp [Lib.bitLenAux]
      rw [e]; simp
    · obtain ⟨a, b, c, d⟩ := ih (x / 2) h (by rw [Nat.pow_succ] at h2; omega)
      have e1 : 2 ^ (1 + Lib.bitLenAux f (x / 2) - 1) = 2 * 2 ^ (Lib.bitLenAux f (x / 2) - 1) := by
        rw [← Nat.pow_succ', show 1 + Lib.bitLenAux f (x / 2) - 1 = Lib.bitLenAux f (x / 2) - 1 + 1 by omega]
      have e2 : 2 ^ (1 + Lib.bitLenAux f (x / 2)) = 2 * 2 ^ Lib.bitLenAux f (x / 2) := by
        rw [← Nat.pow_succ', Nat.add_comm]
      rw [e1, e2]
      omega

theorem tab_at (k : Int) (h : k.toNat < Lib.len8tab.size) : (Lib.len8tab[k.toNat].toNat : Int) = Lib.bitLen k.toNat ∧ Lib.bitLen k.toNat ≤ 8 := by
  have hs := Lib.len8tab_size
  have e := Lib.len8_of (k.toNat : Int) (by omega) (by omega)
  unfold Lib.len8 at e
  simp only [Int.toNat_natCast] at e
  rw [getElem?_pos Lib.len8tab k.toNat h] at e
  exact ⟨e, by have := Lib.bitLen_le8' (k.toNat : Int) (by omega) (by omega); rw [Int.toNat_natCast] at this; exact this⟩

theorem len_end (c : Int) (d x : Nat) (k : Int) (h : k.toNat < Lib.len8tab.size) (hk : k.toNat = d) (hc : 0 ≤ c) (hc2 : c ≤ 64) (he : (Lib.bitLen x : Int) = c + Lib.bitLen d) :
    wrap64 (c + wrap64 (Lib.len8tab[k.toNat].toNat : Int)) = (Lib.bitLen x : Int) := by
  obtain ⟨e, l⟩ := tab_at k h
  rw [e, he, hk] at *
  rw [IntWalk.wrap64_in (Lib.bitLen d : Int) ⟨by omega, by omega⟩, IntWalk.wrap64_in _ ⟨by omega, by omega⟩]
theorem len_end0 (d x : Nat) (k : Int) (h : k.toNat < Lib.len8tab.size) (hk : k.toNat = d) (he : (Lib.bitLen x : Int) = Lib.bitLen d) :
    wrap64 (wrap64 (Lib.len8tab[k.toNat].toNat : Int)) = (Lib.bitLen x : Int) := by
  have := len_end 0 d x k h hk (by omega) (by omega) (by omega)
  rw [Int.zero_add] at this
  exact this

set_option maxHeartbeats 1000000 in
set_option maxRecDepth 20000 in
theorem len64_any (x : Int) (hx : 0 ≤ x) (hx2 : x < 18446744073709551616) (w : World) :
    Calls Try.prog 122 #[.int .u64 x] w fun e w' => e = .returned (.int .i64 (Lib.bitLen x.toNat)) ∧ w = w' := by
  go_enter Try.func122, Try.ntmps122
  go_wp2
  all_goals first
    | (exfalso; have hs := Lib.len8tab_size; omega)
    | (go_ret; refine ⟨ret_i ?_, rfl⟩)
  · exact len_end 56 (x.toNat / 72057594037927936) x.toNat _ _ (by omega) (by omega) (by omega) (by have := Lib.bitLen_shift56 x.toNat (by omega) (by omega); omega)
  · exact len_end 48 (x.toNat / 281474976710656) x.toNat _ _ (by omega) (by omega) (by omega) (by have := Lib.bitLen_shift48 x.toNat (by omega) (by omega); omega)
  · exact len_end 40 (x.toNat / 1099511627776) x.toNat _ _ (by omega) (by omega) (by omega) (by have := Lib.bitLen_shift40 x.toNat (by omega) (by omega); omega)
  · exact len_end 32 (x.toNat / 4294967296) x.toNat _ _ (by omega) (by omega) (by omega) (by have := Lib.bitLen_shift32 x.toNat (by omega) (by omega); omega)
  · exact len_end 24 (x.toNat / 16777216) x.toNat _ _ (by omega) (by omega) (by omega) (by have := Lib.bitLen_shift24 x.toNat (by omega) (by omega); omega)
  · exact len_end 16 (x.toNat / 65536) x.toNat _ _ (by omega) (by omega) (by omega) (by have := Lib.bitLen_shift16 x.toNat (by omega) (by omega); omega)
  · exact len_end 8 (x.toNat / 256) x.toNat _ _ (by omega) (by omega) (by omega) (by have := Lib.bitLen_shift8 x.toNat (by omega) (by omega); omega)
  · exact len_end0 x.toNat x.toNat _ _ (by omega) rfl

/-- How many noughts stand ahead: with them the number's top bit is the word's. -/
theorem lead64_any (x : Int) (hx : 0 < x) (hx2 : x < 18446744073709551616) (w : World) :
    Calls Try.prog 134 #[.int .u64 x] w fun e w' => e = .returned (.int .i64 ((64 - Lib.bitLen x.toNat : Nat) : Int)) ∧ w = w' := by
  have hl : (Lib.bitLen x.toNat : Int) ≤ 64 := by
    have := (bits_bounds 64 x.toNat (by omega) (by omega)).2.2.2
    unfold Lib.bitLen; omega
  go_enter Try.func134, Try.ntmps134
  go_wp2_with (go_at_call 122; refine (len64_any _ (by omega) (by omega) _).mono ?_; rintro e w' ⟨rfl, rfl⟩)
  go_ret
  exact ⟨ret_i (by omega), rfl⟩

end Go.Proofs.Ytfeoppbincldfaa
