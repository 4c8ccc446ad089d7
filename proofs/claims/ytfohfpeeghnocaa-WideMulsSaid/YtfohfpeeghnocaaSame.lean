/- The laws' own comparison of a number of 128 bits with the reference's digits. -/
import Derived.Test.YtfohfpeeghnocaaPair
import Derived.Test.YtfohfpeeghnocaaCmp
import Derived.Test.YtfohfpeeghnocaaSt
import Derived.Test.YtfohfpeeghnocaaDived
namespace Go.Proofs.Ytfohfpeeghnocaa
open Go.RowKit

theorem same_core (h l n : Nat) (vb : Value) (c : Int) (hh : h < 18446744073709551616) (hl : l < 18446744073709551616) (hc : Dg.cmpN (h * 18446744073709551616 + l) n = c) (w : World) (hb : Num w vb n) :
    Calls Try.prog 16 #[.agg #[.int .u64 (h : Int), .int .u64 (l : Int)], vb] w fun e w' => e = .returned (.bool (c == 0)) ∧ Below w.heap.size w w' := by
  have HB := Lib.hid hb
  clear hb
  go_enter Try.func16, Try.ntmps16
  go_wp2_with (go_at_call 13; (with_reducible refine (pair_any h l hh hl _).mono ?_); rintro e w2 ⟨v2, rfl, hn2, hb2, hf2⟩; have HN := Lib.hid hn2; have HB2 := Lib.hid ((bAl (bRef w) _).trans (hb2.mono (by simp))); clear hn2 hb2 hf2)
  go_wp2_with (go_at_call 17; (with_reducible refine (cmp_at HN.out (HB.out.below HB2.out) (L := 9) (by omega) (by omega) hc).mono ?_); rintro e w3 ⟨rfl, q3, rfl⟩)
  go_ret
  exact ⟨rfl, bDr HB2.out _⟩

theorem same_any (h l n : Nat) (vb : Value) (hh : h < 18446744073709551616) (hl : l < 18446744073709551616) (w : World) (hb : Num w vb n) (e : h * 18446744073709551616 + l = n) :
    Calls Try.prog 16 #[.agg #[.int .u64 (h : Int), .int .u64 (l : Int)], vb] w fun e w' => e = .returned (.bool true) ∧ Below w.heap.size w w' :=
  same_core h l n vb 0 hh hl (Dg.cmpN_eq' e) w hb


set_option maxHeartbeats 2000000 in
theorem muls_core (a b : Nat) (ha : a < 18446744073709551616) (hb : b < 18446744073709551616) (h l : Nat) (hh : h < 18446744073709551616) (hl : l < 18446744073709551616) (he : h * 18446744073709551616 + l = a * b)
    (H15 : Ret 21 #[.int .u64 3, .int .u64 5] (.agg #[.int .u64 0, .int .u64 15]))
    (HM : Ret 21 #[.int .u64 (a : Int), .int .u64 (b : Int)] (.agg #[.int .u64 (h : Int), .int .u64 (l : Int)])) (w : World) :
    Calls Try.prog 4 #[.int .u64 (a : Int), .int .u64 (b : Int)] w fun e w' => e = .returned (.bool true) ∧ Below w.heap.size w w' := by
  go_enter Try.func4, Try.ntmps4
  go_wp2_with (first
    | (go_at_call 21; (with_reducible refine (H15.go _).mono ?_); rintro e w1 ⟨rfl, hb1⟩; have B1 := Lib.hid hb1; clear hb1)
    | (go_at_call 21; (with_reducible refine (HM.go _).mono ?_); rintro e w2 ⟨rfl, hb2⟩; have B2 := Lib.hid (bTr B1.out hb2); clear hb2)
    | (go_at_call 23; (with_reducible refine (of_any a ha _).mono ?_); rintro e w3 ⟨v3, rfl, hn3, hb3, hf3⟩; have N3 := Lib.hid hn3; have B3 := Lib.hid (bTr B2.out hb3); clear hn3 hb3 hf3)
    | (go_at_call 23; (with_reducible refine (of_any b hb _).mono ?_); rintro e w4 ⟨v4, rfl, hn4, hb4, hf4⟩; have N4 := Lib.hid hn4; have N34 := Lib.hid (N3.out.below hb4); have B4 := Lib.hid (bTr B3.out hb4); clear hn4 hb4 hf4)
    | (go_at_call 22; (with_reducible refine (mul_any N34.out N4.out (L := 4) (by omega) (by omega) (by omega)).mono ?_); rintro e w5 ⟨v5, rfl, hn5, hb5, hf5⟩; have N5 := Lib.hid hn5; have B5 := Lib.hid (bTr B4.out hb5); clear hn5 hb5 hf5)
    | (go_at_call 16; (with_reducible refine (same_any h l (a * b) _ hh hl _ N5.out he).mono ?_); rintro e w6 ⟨rfl, hb6⟩))
  go_ret
  exact ⟨rfl, bTr B5.out hb6⟩

theorem muls_walk (a b : Int) (h1 : 0 ≤ a) (h2 : a < 18446744073709551616) (h3 : 0 ≤ b) (h4 : b < 18446744073709551616) (w : World) :
    Calls Try.prog 4 #[.int .u64 a, .int .u64 b] w fun e w' => e = .returned (.bool true) ∧ Below w.heap.size w w' := by
  obtain ⟨a, rfl⟩ := Int.eq_ofNat_of_zero_le h1
  obtain ⟨b, rfl⟩ := Int.eq_ofNat_of_zero_le h3
  have hlt : a * b < 18446744073709551616 * 18446744073709551616 := Nat.mul_lt_mul'' (by omega) (by omega)
  have HM := fun w => wMul (a : Int) (b : Int) h1 h3 h2 h4 w
  rw [← Int.natCast_mul] at HM
  generalize hp : a * b = p at *
  have HM' : Ret 21 #[.int .u64 (a : Int), .int .u64 (b : Int)] (.agg #[.int .u64 ((p / 18446744073709551616 : Nat) : Int), .int .u64 ((p % 18446744073709551616 : Nat) : Int)]) := fun w => HM w
  exact muls_core a b (by omega) (by omega) (p / 18446744073709551616) (p % 18446744073709551616) (by omega) (by omega) (by rw [hp]; omega) (fun w => wMul 3 5 (by omega) (by omega) (by omega) (by omega) w) HM' w


end Go.Proofs.Ytfohfpeeghnocaa
