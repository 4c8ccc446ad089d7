/- RateSigns: a number and its negative are as far from One; noughts are One; the greater number has no lesser rate. -/
import Derived.Test.YtfohfpeeghnocabPpm
namespace Go.Proofs.Ytfohfpeeghnocab
open Go.RowKit

theorem copysign_ret : Ret 32 #[.float .f64 0, .float .f64 13830554455654793216] (.float .f64 9223372036854775808) := fun w => by
  have h1 := fun W => f64bits_eq 0 W
  have h2 := fun W => f64bits_eq 13830554455654793216 W
  have h3 := fun W => frombits_eq 9223372036854775808 W
  have e1 : bits BinOp.andNot IntKind.u64 0 9223372036854775808 = 0 := by decide
  have e2 : bits BinOp.and IntKind.u64 13830554455654793216 9223372036854775808 = 9223372036854775808 := by decide
  have e3 : bits BinOp.or IntKind.u64 0 9223372036854775808 = 9223372036854775808 := by decide
  go_enter Try.func32, Try.ntmps32
  go_wp2
  go_ret
  exact ⟨rfl, bRef w⟩
theorem signbit_ret : Ret 33 #[.float .f64 0] (.bool false) := fun w => by
  have h1 := fun W => f64bits_eq 0 W
  have e1 : bits BinOp.and IntKind.u64 0 9223372036854775808 = 0 := by decide
  go_enter Try.func33, Try.ntmps33
  go_wp2
  go_ret
  exact ⟨rfl, bRef w⟩

set_option maxHeartbeats 1000000 in
theorem signs_not (x y : Nat) (a b c e g : Int) (he : (e == 0) = false) (H0 : Ret 10 #[] (.bool true)) (H1 : Ret 11 #[.float .f64 x] (.tuple #[.int .i64 a, .int .i64 e])) (H2 : Ret 11 #[.float .f64 (Op.negFloat .f64 x)] (.tuple #[.int .i64 b, .int .i64 e]))
    (H3 : Ret 11 #[.float .f64 y] (.tuple #[.int .i64 c, .int .i64 g])) (H4 : Ret 11 #[.float .f64 9223372036854775808] (.tuple #[.int .i64 2199023255552, .int .i64 0])) (H5 : Ret 16 #[.int .i64 2199023255552] (.float .f64 0)) (w : World) :
    Calls Try.prog 7 #[.float .f64 x, .float .f64 y] w fun e w' => e = .returned (.bool true) ∧ Below w.heap.size w w' := by
  have hneg : Op.unary UnOp.neg (Value.float FloatKind.f64 x) = pure (Value.float FloatKind.f64 (Op.negFloat .f64 x)) := rfl
  have H6 := copysign_ret
  have H7 := signbit_ret
  have HH := bRef w
  go_enter Try.func7, Try.ntmps7
  go_wp2_with (first
    | (go_at_call 10; (with_reducible refine (H0.go _).mono ?_); rintro e wx ⟨rfl, hb⟩; (first | replace HH := bTr HH hb | replace HH := bTr (bDr HH _) hb); clear hb)
    | (go_at_call 11; (with_reducible refine (H1.go _).mono ?_); rintro e wx ⟨rfl, hb⟩; (first | replace HH := bTr HH hb | replace HH := bTr (bDr HH _) hb); clear hb)
    | (go_at_call 11; (with_reducible refine (H2.go _).mono ?_); rintro e wx ⟨rfl, hb⟩; (first | replace HH := bTr HH hb | replace HH := bTr (bDr HH _) hb); clear hb)
    | (go_at_call 11; (with_reducible refine (H3.go _).mono ?_); rintro e wx ⟨rfl, hb⟩; (first | replace HH := bTr HH hb | replace HH := bTr (bDr HH _) hb); clear hb)
    | (go_at_call 32; (with_reducible refine (H6.go _).mono ?_); rintro e wx ⟨rfl, hb⟩; (first | replace HH := bTr HH hb | replace HH := bTr (bDr HH _) hb); clear hb)
    | (go_at_call 11; (with_reducible refine (H4.go _).mono ?_); rintro e wx ⟨rfl, hb⟩; (first | replace HH := bTr HH hb | replace HH := bTr (bDr HH _) hb); clear hb)
    | (go_at_call 16; (with_reducible refine (H5.go _).mono ?_); rintro e wx ⟨rfl, hb⟩; (first | replace HH := bTr HH hb | replace HH := bTr (bDr HH _) hb); clear hb)
    | (go_at_call 33; (with_reducible refine (H7.go _).mono ?_); rintro e wx ⟨rfl, hb⟩; (first | replace HH := bTr HH hb | replace HH := bTr (bDr HH _) hb); clear hb))
  go_ret
  exact ⟨rfl, HH⟩

set_option maxHeartbeats 1000000 in
theorem signs_half (x y : Nat) (a b c g : Int) (d : Int) (hd1 : wrap64 (a - 2199023255552) = d) (hd2 : wrap64 (2199023255552 - b) = d) (hg : (g == 0) = false) (H0 : Ret 10 #[] (.bool true)) (H1 : Ret 11 #[.float .f64 x] (.tuple #[.int .i64 a, .int .i64 0])) (H2 : Ret 11 #[.float .f64 (Op.negFloat .f64 x)] (.tuple #[.int .i64 b, .int .i64 0]))
    (H3 : Ret 11 #[.float .f64 y] (.tuple #[.int .i64 c, .int .i64 g])) (H4 : Ret 11 #[.float .f64 9223372036854775808] (.tuple #[.int .i64 2199023255552, .int .i64 0])) (H5 : Ret 16 #[.int .i64 2199023255552] (.float .f64 0)) (w : World) :
    Calls Try.prog 7 #[.float .f64 x, .float .f64 y] w fun e w' => e = .returned (.bool true) ∧ Below w.heap.size w w' := by
  have hneg : Op.unary UnOp.neg (Value.float FloatKind.f64 x) = pure (Value.float FloatKind.f64 (Op.negFloat .f64 x)) := rfl
  have H6 := copysign_ret
  have H7 := signbit_ret
  have HH := bRef w
  go_enter Try.func7, Try.ntmps7
  go_wp2_with (first
    | (go_at_call 10; (with_reducible refine (H0.go _).mono ?_); rintro e wx ⟨rfl, hb⟩; (first | replace HH := bTr HH hb | replace HH := bTr (bDr HH _) hb); clear hb)
    | (go_at_call 11; (with_reducible refine (H1.go _).mono ?_); rintro e wx ⟨rfl, hb⟩; (first | replace HH := bTr HH hb | replace HH := bTr (bDr HH _) hb); clear hb)
    | (go_at_call 11; (with_reducible refine (H2.go _).mono ?_); rintro e wx ⟨rfl, hb⟩; (first | replace HH := bTr HH hb | replace HH := bTr (bDr HH _) hb); clear hb)
    | (go_at_call 11; (with_reducible refine (H3.go _).mono ?_); rintro e wx ⟨rfl, hb⟩; (first | replace HH := bTr HH hb | replace HH := bTr (bDr HH _) hb); clear hb)
    | (go_at_call 32; (with_reducible refine (H6.go _).mono ?_); rintro e wx ⟨rfl, hb⟩; (first | replace HH := bTr HH hb | replace HH := bTr (bDr HH _) hb); clear hb)
    | (go_at_call 11; (with_reducible refine (H4.go _).mono ?_); rintro e wx ⟨rfl, hb⟩; (first | replace HH := bTr HH hb | replace HH := bTr (bDr HH _) hb); clear hb)
    | (go_at_call 16; (with_reducible refine (H5.go _).mono ?_); rintro e wx ⟨rfl, hb⟩; (first | replace HH := bTr HH hb | replace HH := bTr (bDr HH _) hb); clear hb)
    | (go_at_call 33; (with_reducible refine (H7.go _).mono ?_); rintro e wx ⟨rfl, hb⟩; (first | replace HH := bTr HH hb | replace HH := bTr (bDr HH _) hb); clear hb))
  go_ret
  exact ⟨rfl, HH⟩

set_option maxHeartbeats 1000000 in
theorem signs_lt (x y : Nat) (a b c : Int) (d : Int) (hd1 : wrap64 (a - 2199023255552) = d) (hd2 : wrap64 (2199023255552 - b) = d) (hlt : (FloatKind.f64.format.order x y == some .lt) = true) (hgt : (FloatKind.f64.format.order x y == some .gt) = false) (heq : (FloatKind.f64.format.order x y == some .eq) = false) (hc : decide (c < a) = false) (H0 : Ret 10 #[] (.bool true)) (H1 : Ret 11 #[.float .f64 x] (.tuple #[.int .i64 a, .int .i64 0])) (H2 : Ret 11 #[.float .f64 (Op.negFloat .f64 x)] (.tuple #[.int .i64 b, .int .i64 0]))
    (H3 : Ret 11 #[.float .f64 y] (.tuple #[.int .i64 c, .int .i64 0])) (H4 : Ret 11 #[.float .f64 9223372036854775808] (.tuple #[.int .i64 2199023255552, .int .i64 0])) (H5 : Ret 16 #[.int .i64 2199023255552] (.float .f64 0)) (w : World) :
    Calls Try.prog 7 #[.float .f64 x, .float .f64 y] w fun e w' => e = .returned (.bool true) ∧ Below w.heap.size w w' := by
  have hneg : Op.unary UnOp.neg (Value.float FloatKind.f64 x) = pure (Value.float FloatKind.f64 (Op.negFloat .f64 x)) := rfl
  have H6 := copysign_ret
  have H7 := signbit_ret
  have HH := bRef w
  go_enter Try.func7, Try.ntmps7
  go_wp2_with (first
    | (go_at_call 10; (with_reducible refine (H0.go _).mono ?_); rintro e wx ⟨rfl, hb⟩; (first | replace HH := bTr HH hb | replace HH := bTr (bDr HH _) hb); clear hb)
    | (go_at_call 11; (with_reducible refine (H1.go _).mono ?_); rintro e wx ⟨rfl, hb⟩; (first | replace HH := bTr HH hb | replace HH := bTr (bDr HH _) hb); clear hb)
    | (go_at_call 11; (with_reducible refine (H2.go _).mono ?_); rintro e wx ⟨rfl, hb⟩; (first | replace HH := bTr HH hb | replace HH := bTr (bDr HH _) hb); clear hb)
    | (go_at_call 11; (with_reducible refine (H3.go _).mono ?_); rintro e wx ⟨rfl, hb⟩; (first | replace HH := bTr HH hb | replace HH := bTr (bDr HH _) hb); clear hb)
    | (go_at_call 32; (with_reducible refine (H6.go _).mono ?_); rintro e wx ⟨rfl, hb⟩; (first | replace HH := bTr HH hb | replace HH := bTr (bDr HH _) hb); clear hb)
    | (go_at_call 11; (with_reducible refine (H4.go _).mono ?_); rintro e wx ⟨rfl, hb⟩; (first | replace HH := bTr HH hb | replace HH := bTr (bDr HH _) hb); clear hb)
    | (go_at_call 16; (with_reducible refine (H5.go _).mono ?_); rintro e wx ⟨rfl, hb⟩; (first | replace HH := bTr HH hb | replace HH := bTr (bDr HH _) hb); clear hb)
    | (go_at_call 33; (with_reducible refine (H7.go _).mono ?_); rintro e wx ⟨rfl, hb⟩; (first | replace HH := bTr HH hb | replace HH := bTr (bDr HH _) hb); clear hb))
  go_ret
  exact ⟨rfl, HH⟩

set_option maxHeartbeats 1000000 in
theorem signs_gt (x y : Nat) (a b c : Int) (d : Int) (hd1 : wrap64 (a - 2199023255552) = d) (hd2 : wrap64 (2199023255552 - b) = d) (hlt : (FloatKind.f64.format.order x y == some .lt) = false) (hgt : (FloatKind.f64.format.order x y == some .gt) = true) (heq : (FloatKind.f64.format.order x y == some .eq) = false) (hc : decide (a < c) = false) (H0 : Ret 10 #[] (.bool true)) (H1 : Ret 11 #[.float .f64 x] (.tuple #[.int .i64 a, .int .i64 0])) (H2 : Ret 11 #[.float .f64 (Op.negFloat .f64 x)] (.tuple #[.int .i64 b, .int .i64 0]))
    (H3 : Ret 11 #[.float .f64 y] (.tuple #[.int .i64 c, .int .i64 0])) (H4 : Ret 11 #[.float .f64 9223372036854775808] (.tuple #[.int .i64 2199023255552, .int .i64 0])) (H5 : Ret 16 #[.int .i64 2199023255552] (.float .f64 0)) (w : World) :
    Calls Try.prog 7 #[.float .f64 x, .float .f64 y] w fun e w' => e = .returned (.bool true) ∧ Below w.heap.size w w' := by
  have hneg : Op.unary UnOp.neg (Value.float FloatKind.f64 x) = pure (Value.float FloatKind.f64 (Op.negFloat .f64 x)) := rfl
  have H6 := copysign_ret
  have H7 := signbit_ret
  have HH := bRef w
  go_enter Try.func7, Try.ntmps7
  go_wp2_with (first
    | (go_at_call 10; (with_reducible refine (H0.go _).mono ?_); rintro e wx ⟨rfl, hb⟩; (first | replace HH := bTr HH hb | replace HH := bTr (bDr HH _) hb); clear hb)
    | (go_at_call 11; (with_reducible refine (H1.go _).mono ?_); rintro e wx ⟨rfl, hb⟩; (first | replace HH := bTr HH hb | replace HH := bTr (bDr HH _) hb); clear hb)
    | (go_at_call 11; (with_reducible refine (H2.go _).mono ?_); rintro e wx ⟨rfl, hb⟩; (first | replace HH := bTr HH hb | replace HH := bTr (bDr HH _) hb); clear hb)
    | (go_at_call 11; (with_reducible refine (H3.go _).mono ?_); rintro e wx ⟨rfl, hb⟩; (first | replace HH := bTr HH hb | replace HH := bTr (bDr HH _) hb); clear hb)
    | (go_at_call 32; (with_reducible refine (H6.go _).mono ?_); rintro e wx ⟨rfl, hb⟩; (first | replace HH := bTr HH hb | replace HH := bTr (bDr HH _) hb); clear hb)
    | (go_at_call 11; (with_reducible refine (H4.go _).mono ?_); rintro e wx ⟨rfl, hb⟩; (first | replace HH := bTr HH hb | replace HH := bTr (bDr HH _) hb); clear hb)
    | (go_at_call 16; (with_reducible refine (H5.go _).mono ?_); rintro e wx ⟨rfl, hb⟩; (first | replace HH := bTr HH hb | replace HH := bTr (bDr HH _) hb); clear hb)
    | (go_at_call 33; (with_reducible refine (H7.go _).mono ?_); rintro e wx ⟨rfl, hb⟩; (first | replace HH := bTr HH hb | replace HH := bTr (bDr HH _) hb); clear hb))
  go_ret
  exact ⟨rfl, HH⟩

set_option maxHeartbeats 1000000 in
theorem signs_eq (x y : Nat) (a b c : Int) (d : Int) (hd1 : wrap64 (a - 2199023255552) = d) (hd2 : wrap64 (2199023255552 - b) = d) (hlt : (FloatKind.f64.format.order x y == some .lt) = false) (hgt : (FloatKind.f64.format.order x y == some .gt) = false) (heq : (FloatKind.f64.format.order x y == some .eq) = true) (hc : (a != c) = false) (H0 : Ret 10 #[] (.bool true)) (H1 : Ret 11 #[.float .f64 x] (.tuple #[.int .i64 a, .int .i64 0])) (H2 : Ret 11 #[.float .f64 (Op.negFloat .f64 x)] (.tuple #[.int .i64 b, .int .i64 0]))
    (H3 : Ret 11 #[.float .f64 y] (.tuple #[.int .i64 c, .int .i64 0])) (H4 : Ret 11 #[.float .f64 9223372036854775808] (.tuple #[.int .i64 2199023255552, .int .i64 0])) (H5 : Ret 16 #[.int .i64 2199023255552] (.float .f64 0)) (w : World) :
    Calls Try.prog 7 #[.float .f64 x, .float .f64 y] w fun e w' => e = .returned (.bool true) ∧ Below w.heap.size w w' := by
  have hneg : Op.unary UnOp.neg (Value.float FloatKind.f64 x) = pure (Value.float FloatKind.f64 (Op.negFloat .f64 x)) := rfl
  have H6 := copysign_ret
  have H7 := signbit_ret
  have HH := bRef w
  go_enter Try.func7, Try.ntmps7
  go_wp2_with (first
    | (go_at_call 10; (with_reducible refine (H0.go _).mono ?_); rintro e wx ⟨rfl, hb⟩; (first | replace HH := bTr HH hb | replace HH := bTr (bDr HH _) hb); clear hb)
    | (go_at_call 11; (with_reducible refine (H1.go _).mono ?_); rintro e wx ⟨rfl, hb⟩; (first | replace HH := bTr HH hb | replace HH := bTr (bDr HH _) hb); clear hb)
    | (go_at_call 11; (with_reducible refine (H2.go _).mono ?_); rintro e wx ⟨rfl, hb⟩; (first | replace HH := bTr HH hb | replace HH := bTr (bDr HH _) hb); clear hb)
    | (go_at_call 11; (with_reducible refine (H3.go _).mono ?_); rintro e wx ⟨rfl, hb⟩; (first | replace HH := bTr HH hb | replace HH := bTr (bDr HH _) hb); clear hb)
    | (go_at_call 32; (with_reducible refine (H6.go _).mono ?_); rintro e wx ⟨rfl, hb⟩; (first | replace HH := bTr HH hb | replace HH := bTr (bDr HH _) hb); clear hb)
    | (go_at_call 11; (with_reducible refine (H4.go _).mono ?_); rintro e wx ⟨rfl, hb⟩; (first | replace HH := bTr HH hb | replace HH := bTr (bDr HH _) hb); clear hb)
    | (go_at_call 16; (with_reducible refine (H5.go _).mono ?_); rintro e wx ⟨rfl, hb⟩; (first | replace HH := bTr HH hb | replace HH := bTr (bDr HH _) hb); clear hb)
    | (go_at_call 33; (with_reducible refine (H7.go _).mono ?_); rintro e wx ⟨rfl, hb⟩; (first | replace HH := bTr HH hb | replace HH := bTr (bDr HH _) hb); clear hb))
  go_ret
  exact ⟨rfl, HH⟩

theorem soff_mono {x y : Nat} (h : srung x ≤ srung y) : soff x ≤ soff y := by
  unfold srung at h
  unfold soff
  by_cases hx : 9223372036854775808 ≤ x <;> by_cases hy : 9223372036854775808 ≤ y
  · rw [if_pos hx, if_pos hy] at h
    have := off_mono (x := y) (y := x) (by omega)
    rw [if_pos hx, if_pos hy]; omega
  · rw [if_pos hx, if_neg hy]; omega
  · rw [if_neg hx, if_pos hy] at h
    rw [if_neg hx, if_pos hy, off_nought (b := x) (by omega), off_nought (b := y) (by omega)]; simp
  · rw [if_neg hx, if_neg hy] at h
    have := off_mono (x := x) (y := y) (by omega)
    rw [if_neg hx, if_neg hy]; omega
theorem off_neg {x : Nat} (h : x < 18446744073709551616) : off (Op.negFloat .f64 x) = off x := by
  unfold off; rw [rung_neg h]
theorem soff_neg {x : Nat} (h : x < 18446744073709551616) : soff (Op.negFloat .f64 x) = -soff x := by
  unfold soff
  rw [off_neg h, neg_bits h]
  by_cases hx : 9223372036854775808 ≤ x
  · rw [if_pos hx, if_neg (by omega), if_pos hx]; omega
  · rw [if_neg hx, if_pos (by omega), if_neg hx]
theorem ofE_zero {b : Nat} (h : ofE b = 0) : rung b ≤ 4662219572839972864 ∧ ofV b = 2199023255552 + soff b := by
  have h2 : rung b ≤ 4662219572839972864 := by
    unfold ofE at h
    split at h
    · omega
    · split at h
      · omega
      · split at h <;> omega
  exact ⟨h2, if_neg (by omega)⟩

theorem signs_walk (x y : Nat) (hx : x < 18446744073709551616) (hy : y < 18446744073709551616) (w : World) :
    Calls Try.prog 7 #[.float .f64 x, .float .f64 y] w fun e w' => e = .returned (.bool true) ∧ Below w.heap.size w w' := by
  have H1 := of_ret hx
  have H2 := of_ret (neg_lt hx)
  have H3 := of_ret hy
  have H4 := of_ret (b := 9223372036854775808) (by omega)
  have e4 : ofV 9223372036854775808 = 2199023255552 ∧ ofE 9223372036854775808 = 0 := by
    have r0 : rung 9223372036854775808 = 0 := by decide
    have o0 := off_nought r0
    constructor
    · unfold ofV soff
      rw [o0, r0]; decide
    · unfold ofE
      rw [r0]; decide
  rw [e4.1, e4.2] at H4
  have H5 := ppm_ret (r := 2199023255552) ⟨by omega, by omega⟩
  rw [show ppmB (2199023255552 - 2199023255552) = 0 by decide] at H5
  have eE : ofE (Op.negFloat .f64 x) = ofE x := by unfold ofE; rw [rung_neg hx]
  rw [eE] at H2
  by_cases he : ofE x = 0
  · obtain ⟨a1, a2⟩ := ofE_zero he
    obtain ⟨b1, b2⟩ := ofE_zero (eE.trans he)
    have sb := soff_le a1
    rw [soff_neg hx] at b2
    rw [he, a2] at H1
    rw [he, b2] at H2
    have hd1 : wrap64 (2199023255552 + soff x - 2199023255552) = soff x := (IntWalk.wrap64_in _ ⟨by omega, by omega⟩).trans (by omega)
    have hd2 : wrap64 (2199023255552 - (2199023255552 + -soff x)) = soff x := (IntWalk.wrap64_in _ ⟨by omega, by omega⟩).trans (by omega)
    by_cases hg : ofE y = 0
    · obtain ⟨c1, c2⟩ := ofE_zero hg
      rw [hg, c2] at H3
      have fx : Fin64 x := ⟨hx, by omega⟩
      have fy : Fin64 y := ⟨hy, by omega⟩
      have hlt := order_lt fx fy
      have hgt := order_gt fx fy
      have heq := order_eq fx fy
      change (FloatKind.f64.format.order x y == some .lt) = _ at hlt
      change (FloatKind.f64.format.order x y == some .gt) = _ at hgt
      change (FloatKind.f64.format.order x y == some .eq) = _ at heq
      rcases Int.lt_trichotomy (srung x) (srung y) with h | h | h
      · rw [decide_eq_true h] at hlt
        rw [decide_eq_false (by omega)] at hgt heq
        have := soff_mono (x := x) (y := y) (by omega)
        exact signs_lt x y _ _ _ _ hd1 hd2 hlt hgt heq (decide_eq_false (by omega)) made_ret H1 H2 H3 H4 H5 w
      · rw [decide_eq_true h] at heq
        rw [decide_eq_false (by omega)] at hgt hlt
        have m1 := soff_mono (x := x) (y := y) (by omega)
        have m2 := soff_mono (x := y) (y := x) (by omega)
        exact signs_eq x y _ _ _ _ hd1 hd2 hlt hgt heq (by rw [bne_eq_false_iff_eq]; omega) made_ret H1 H2 H3 H4 H5 w
      · rw [decide_eq_true h] at hgt
        rw [decide_eq_false (by omega)] at hlt heq
        have := soff_mono (x := y) (y := x) (by omega)
        exact signs_gt x y _ _ _ _ hd1 hd2 hlt hgt heq (decide_eq_false (by omega)) made_ret H1 H2 H3 H4 H5 w
    · exact signs_half x y _ _ _ _ _ hd1 hd2 (by rw [beq_eq_false_iff_ne]; exact hg) made_ret H1 H2 H3 H4 H5 w
  · exact signs_not x y _ _ _ _ _ (by rw [beq_eq_false_iff_ne]; exact he) made_ret H1 H2 H3 H4 H5 w

end Go.Proofs.Ytfohfpeeghnocab
