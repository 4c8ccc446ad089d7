/- Package rate: a float's bits, whether it is a number, and the rate that Of makes of it. -/
import Derived.Test.YtfohfpeeghnocabBetween
import Derived.Test.YtfohfpeeghnocabExact
import Derived.Laws.Externs
namespace Go.Proofs.Ytfohfpeeghnocab
open Go.RowKit

theorem f64bits_eq (b : Nat) (w : World) : (callFunc 13 #[.float .f64 b]).run Try.prog w = .ok (.value (.int .u64 (b : Int))) w := by
  rw [run_callFunc_extern Try.func13 (by kernel_rfl) (by kernel_rfl) (by kernel_rfl) (e := Extern.MathFloatBits.float64bits) (by kernel_rfl)]
  rfl

theorem andNot_sign {b : Nat} (h : b < 18446744073709551616) : bits .andNot .u64 (b : Int) 9223372036854775808 = ((rung b : Nat) : Int) := by
  have e1 := u64_andNot_nat b 9223372036854775808 h (by omega)
  have e : b &&& (18446744073709551615 - 9223372036854775808) = b % 9223372036854775808 := Nat.and_two_pow_sub_one_eq_mod b 63
  rw [e] at e1
  exact e1

theorem isNo_walk (b r : Nat) (x : Bool) (hr : bits .andNot .u64 (b : Int) 9223372036854775808 = ((r : Nat) : Int)) (hx : decide ((9218868437227405312 : Int) < (r : Int)) = x) (w : World) :
    Calls Try.prog 34 #[.float .f64 b] w fun e w' => e = .returned (.bool x) ∧ w = w' := by
  have hb := fun W => f64bits_eq b W
  go_enter Try.func34, Try.ntmps34
  go_wp2
  go_ret
  exact ⟨rfl, rfl⟩
theorem isEnd_walk (b r : Nat) (x : Bool) (hr : bits .andNot .u64 (b : Int) 9223372036854775808 = ((r : Nat) : Int)) (hx : ((r : Int) == (9218868437227405312 : Int)) = x) (w : World) :
    Calls Try.prog 35 #[.float .f64 b] w fun e w' => e = .returned (.bool x) ∧ w = w' := by
  have hb := fun W => f64bits_eq b W
  go_enter Try.func35, Try.ntmps35
  go_wp2
  go_ret
  exact ⟨rfl, rfl⟩

theorem parts_tiny (b r : Nat) (s t : Int) (hr : bits .andNot .u64 (b : Int) 9223372036854775808 = ((r : Nat) : Int)) (hs : wrap64 (wrap64 (1075 - wrap64 ((r : Int) / 4503599627370496)) - 35) = s)
    (ht : Op.shift BinOp.shr IntKind.i64 9223372036854775807 IntKind.i64 s = pure (.int .i64 t)) (hx : decide (t < 15625) = true) (w : World) :
    Calls Try.prog 36 #[.float .f64 b] w fun e w' => e = .returned (.int .i64 0) ∧ Below w.heap.size w w' := by
  have hb := fun W => f64bits_eq b W
  go_enter Try.func36, Try.ntmps36
  go_wp2_with (first | done)
  go_ret
  exact ⟨rfl, bRef _⟩
theorem parts_walk (b r : Nat) (s t M c v x : Int) (hr : bits .andNot .u64 (b : Int) 9223372036854775808 = ((r : Nat) : Int)) (hs : wrap64 (wrap64 (1075 - wrap64 ((r : Int) / 4503599627370496)) - 35) = s)
    (ht : Op.shift BinOp.shr IntKind.i64 9223372036854775807 IntKind.i64 s = pure (.int .i64 t)) (hx : decide (t < 15625) = false)
    (hm : wrap64 (bits BinOp.or IntKind.u64 (bits BinOp.and IntKind.u64 (b : Int) 4503599627370495) 4503599627370496) = M) (hn : (bits BinOp.and IntKind.u64 (b : Int) 9223372036854775808 != 0) = false)
    (hc : Op.shift BinOp.shl IntKind.i64 15625 IntKind.i64 s = pure (.int .i64 c)) (H : Ret 41 #[.int .i64 M, .int .i64 1, .int .i64 c] (.tuple #[.int .i64 v, .int .i64 x])) (w : World) :
    Calls Try.prog 36 #[.float .f64 b] w fun e w' => e = .returned (.int .i64 v) ∧ Below w.heap.size w w' := by
  have hb := fun W => f64bits_eq b W
  go_enter Try.func36, Try.ntmps36
  go_wp2_with (first
    | (go_at_call 41; (with_reducible refine (H.go _).mono ?_); rintro e wx ⟨rfl, hb1⟩))
  go_ret
  exact ⟨rfl, hb1⟩
theorem parts_walk_neg (b r : Nat) (s t M M' c v x : Int) (hr : bits .andNot .u64 (b : Int) 9223372036854775808 = ((r : Nat) : Int)) (hs : wrap64 (wrap64 (1075 - wrap64 ((r : Int) / 4503599627370496)) - 35) = s)
    (ht : Op.shift BinOp.shr IntKind.i64 9223372036854775807 IntKind.i64 s = pure (.int .i64 t)) (hx : decide (t < 15625) = false)
    (hm : wrap64 (bits BinOp.or IntKind.u64 (bits BinOp.and IntKind.u64 (b : Int) 4503599627370495) 4503599627370496) = M) (hn : (bits BinOp.and IntKind.u64 (b : Int) 9223372036854775808 != 0) = true)
    (hM : wrap64 (-M) = M')
    (hc : Op.shift BinOp.shl IntKind.i64 15625 IntKind.i64 s = pure (.int .i64 c)) (H : Ret 41 #[.int .i64 M', .int .i64 1, .int .i64 c] (.tuple #[.int .i64 v, .int .i64 x])) (w : World) :
    Calls Try.prog 36 #[.float .f64 b] w fun e w' => e = .returned (.int .i64 v) ∧ Below w.heap.size w w' := by
  have hb := fun W => f64bits_eq b W
  go_enter Try.func36, Try.ntmps36
  go_wp2_with (first
    | (go_at_call 41; (with_reducible refine (H.go _).mono ?_); rintro e wx ⟨rfl, hb1⟩))
  go_ret
  exact ⟨rfl, hb1⟩

theorem goes_rUp (M c : Nat) (hc : 0 < c) (below : Bool) : goes ((M / c : Nat) : Int) ((M % c : Nat) : Int) (c : Int) below 2 = rUp M c := by
  have hl := Nat.mod_lt M hc
  unfold goes rUp
  generalize M % c = l at *
  generalize M / c = q at *
  by_cases h0 : l = 0
  · subst h0
    rw [if_pos (show ((0 : Nat) : Int) = 0 from rfl), decide_eq_false (show ¬ c < 0 + 0 by omega), decide_eq_false (show ¬ 0 + 0 = c by omega)]; rfl
  · rw [if_neg (show ¬ ((l : Nat) : Int) = 0 by omega), if_neg (show ¬ (2 : Int) = 0 by omega), if_neg (show ¬ (2 : Int) = 1 by omega)]
    by_cases h : l + l = c
    · rw [if_pos (show ((l : Nat) : Int) = (c : Int) - (l : Int) by omega), decide_eq_false (show ¬ c < l + l by omega), decide_eq_true h, Bool.false_or, Bool.true_and]
      exact decide_eq_decide.2 (by omega)
    · rw [if_neg (show ¬ ((l : Nat) : Int) = (c : Int) - (l : Int) by omega), decide_eq_false h, Bool.false_and, Bool.or_false]
      exact decide_eq_decide.2 (by omega)

theorem mdQ_one (x : Int) (M c : Nat) (hx : x.natAbs = M) (hc : 0 < c) : mdQ x 1 (c : Int) 2 = rq M c := by
  unfold mdQ rq mdN
  rw [hx, Int.natAbs_natCast, show (1 : Int).natAbs = 1 from rfl, Nat.mul_one, goes_rUp M c hc]

theorem rv_one (x : Int) (M c : Nat) (hx : x.natAbs = M) (hM : M < 9007199254740992) (hM0 : 0 < M) (hc : 0 < c) : rV x 1 (c : Int) = if x < 0 then -((rq M c : Nat) : Int) else ((rq M c : Nat) : Int) := by
  have hq := mdQ_one x M c hx hc
  have hb := (rq_bounds M c hc).1
  have hle : rq M c ≤ M + 1 := by
    refine Nat.not_lt.1 fun h => ?_
    have := Nat.mul_le_mul_right c (show M + 2 ≤ rq M c from h)
    have h3 : M + 2 * c ≤ (M + 2) * c := by
      rw [Nat.add_mul]
      have := Nat.le_mul_of_pos_right M hc
      omega
    omega
  unfold rV mdV
  have h1 : ¬ ((2 : Int) < 0 ∨ (2 : Int) < 2) := by omega
  have hov : mdOver x 1 (c : Int) 2 = false := by
    unfold mdOver
    rw [hq]
    split <;> (rw [decide_eq_false_iff_not]; omega)
  have hneg : neg x 1 (c : Int) = decide (x < 0) := by
    unfold neg
    rw [decide_eq_false (show ¬ (1 : Int) < 0 by omega), decide_eq_false (show ¬ ((c : Nat) : Int) < 0 by omega)]
    simp
  rw [if_neg h1, if_neg (by omega), hov, hneg, hq]
  by_cases h : x < 0
  · simp [h]
  · simp [h]

def soff (b : Nat) : Int := if 9223372036854775808 ≤ b then -((off b : Nat) : Int) else ((off b : Nat) : Int)

theorem mant {b : Nat} (h : b < 18446744073709551616) : bits BinOp.or IntKind.u64 (bits BinOp.and IntKind.u64 (b : Int) 4503599627370495) 4503599627370496 = ((4503599627370496 + b % 4503599627370496 : Nat) : Int) := by
  have e1 := u64_and_nat b 4503599627370495 h (by omega)
  have e : b &&& 4503599627370495 = b % 4503599627370496 := Nat.and_two_pow_sub_one_eq_mod b 52
  rw [e] at e1
  have hl := Nat.mod_lt b (show 0 < 4503599627370496 by omega)
  have e2 := u64_or_nat (b % 4503599627370496) 4503599627370496 (by omega) (by omega)
  have e3 : b % 4503599627370496 ||| 4503599627370496 = 4503599627370496 + b % 4503599627370496 := by
    have := Nat.two_pow_add_eq_or_of_lt (i := 52) hl 1
    rw [Nat.mul_one] at this
    rw [Nat.or_comm]
    exact this.symm
  rw [e3] at e2
  rw [show bits BinOp.and IntKind.u64 (b : Int) 4503599627370495 = ((b % 4503599627370496 : Nat) : Int) from e1]
  exact e2
theorem sign_at {b : Nat} (h : b < 18446744073709551616) : (bits BinOp.and IntKind.u64 (b : Int) 9223372036854775808 != 0) = decide (9223372036854775808 ≤ b) := by
  have e1 := u64_and_nat b 9223372036854775808 h (by omega)
  have e : b &&& 9223372036854775808 = if 9223372036854775808 ≤ b then 9223372036854775808 else 0 := by
    have h1 : (b &&& 2 ^ 63) % 2 ^ 63 = 0 := by rw [Nat.and_mod_two_pow]; simp
    have h2 : (b &&& 2 ^ 63) / 2 ^ 63 = (b / 2 ^ 63) &&& 1 := by rw [Nat.and_div_two_pow]
    have h3 := Nat.div_add_mod (b &&& 2 ^ 63) (2 ^ 63)
    rw [h1, h2] at h3
    have e0 : b &&& 9223372036854775808 = b &&& 2 ^ 63 := rfl
    rw [e0, ← h3]
    split
    · have e : b / 2 ^ 63 = 1 := by omega
      rw [e]; rfl
    · have e : b / 2 ^ 63 = 0 := by omega
      rw [e]; rfl
  rw [e] at e1
  rw [show bits BinOp.and IntKind.u64 (b : Int) 9223372036854775808 = (((if 9223372036854775808 ≤ b then 9223372036854775808 else 0 : Nat)) : Int) from e1]
  by_cases hh : 9223372036854775808 ≤ b <;> simp [hh]

theorem mant_bounds (b M : Nat) (h : 4503599627370496 + b % 4503599627370496 = M) : 0 < M ∧ M < 9007199254740992 := by omega
theorem pow_lt50 (n : Nat) (h : 2 ^ n ≤ 590295810358705) : n < 50 := by
  refine Nat.not_le.1 fun hh => ?_
  have := pow_ge hh
  have e50 : (2 : Nat) ^ 50 = 1125899906842624 := by decide
  omega
theorem c_bounds (p c : Nat) (h0 : 0 < p) (h1 : p ≤ 590295810358705) (h : 15625 * p = c) : 0 < c ∧ c < 9223372036854775808 ∧ IntKind.i64.wrap (15625 * ((p : Nat) : Int)) = (c : Int) := by
  rw [IntKind.wrap_i64]; omega

theorem parts_mid (b M c : Nat) (s t : Int) (h : b < 18446744073709551616) (hs : wrap64 (wrap64 (1075 - wrap64 (((rung b : Nat) : Int) / 4503599627370496)) - 35) = s)
    (hsh : Op.shift BinOp.shr IntKind.i64 9223372036854775807 IntKind.i64 s = pure (.int .i64 t)) (hx : ¬ t < 15625)
    (hm : wrap64 (bits BinOp.or IntKind.u64 (bits BinOp.and IntKind.u64 (b : Int) 4503599627370495) 4503599627370496) = (M : Int))
    (hsl : Op.shift BinOp.shl IntKind.i64 15625 IntKind.i64 s = pure (.int .i64 (c : Int))) (ho : off b = rq M c)
    (hMpos : 0 < M) (hMlt : M < 9007199254740992) (hcpos : 0 < c) (hclt : c < 9223372036854775808) (w : World) :
    Calls Try.prog 36 #[.float .f64 b] w fun e w' => e = .returned (.int .i64 (soff b)) ∧ Below w.heap.size w w' := by
  have hr := andNot_sign h
  have hsg := sign_at h
  unfold soff
  generalize off b = o at *
  subst ho
  by_cases hh : 9223372036854775808 ≤ b
  · rw [decide_eq_true hh] at hsg
    have hv := rv_one (-(M : Int)) M c (by omega) hMlt hMpos hcpos
    rw [if_pos (by omega)] at hv
    have H := rMd_ret (a := -(M : Int)) (b := 1) (c := (c : Int)) ⟨by omega, by omega⟩ ⟨by omega, by omega⟩ ⟨by omega, by omega⟩
    rw [hv] at H
    rw [if_pos hh]
    exact parts_walk_neg b (rung b) _ _ _ _ _ _ _ hr hs hsh (decide_eq_false hx) hm hsg (by unfold wrap64; omega) hsl H w
  · rw [decide_eq_false hh] at hsg
    have hv := rv_one (M : Int) M c (by omega) hMlt hMpos hcpos
    rw [if_neg (by omega)] at hv
    have H := rMd_ret (a := (M : Int)) (b := 1) (c := (c : Int)) ⟨by omega, by omega⟩ ⟨by omega, by omega⟩ ⟨by omega, by omega⟩
    rw [hv] at H
    rw [if_neg hh]
    exact parts_walk b (rung b) _ _ _ _ _ _ hr hs hsh (decide_eq_false hx) hm hsg hsl H w

theorem parts_ret {b : Nat} (h : b < 18446744073709551616) (ht : rung b ≤ 4662219572839972864) : Ret 36 #[.float .f64 b] (.int .i64 (soff b)) := fun w => by
  have hr := andNot_sign h
  obtain ⟨e, he⟩ : ∃ e : Nat, rung b / 4503599627370496 = e := ⟨_, rfl⟩
  have he2 : e ≤ 1035 := by omega
  have hs : wrap64 (wrap64 (1075 - wrap64 (((rung b : Nat) : Int) / 4503599627370496)) - 35) = ((1040 - e : Nat) : Int) := by
    unfold wrap64; omega
  have hsh := shift_shr_any IntKind.i64 IntKind.i64 9223372036854775807 ((1040 - e : Nat) : Int) (by omega)
  have hsl := shift_shl_any IntKind.i64 IntKind.i64 15625 ((1040 - e : Nat) : Int) (by omega)
  rw [Int.toNat_natCast, show IntKind.i64.bits = 64 from rfl] at hsh hsl
  have hK : (2 : Int) ^ min (1040 - e) 64 = ((2 ^ min (1040 - e) 64 : Nat) : Int) := by rw [Int.natCast_pow]; rfl
  rw [hK] at hsh hsl
  have hpos := Nat.two_pow_pos (min (1040 - e) 64)
  by_cases hx : (9223372036854775807 : Int) / ((2 ^ min (1040 - e) 64 : Nat) : Int) < 15625
  · have hbig : 590295810358706 ≤ 2 ^ min (1040 - e) 64 := by
      have := (Int.ediv_lt_iff_lt_mul (show (0 : Int) < ((2 ^ min (1040 - e) 64 : Nat) : Int) by omega)).1 hx
      omega
    have h4 : 590295810358706 ≤ 2 ^ (1040 - e) := Nat.le_trans hbig (pow_ge (by omega))
    have e0 : soff b = 0 := by
      unfold soff
      rw [off_tiny (by omega) he h4]; simp
    rw [e0]
    exact parts_tiny b (rung b) _ _ hr hs hsh (decide_eq_true hx) w
  · have hle : 2 ^ min (1040 - e) 64 ≤ 590295810358705 := by
      have := (Int.le_ediv_iff_mul_le (show (0 : Int) < ((2 ^ min (1040 - e) 64 : Nat) : Int) by omega)).1 (Int.not_lt.1 hx)
      omega
    have hn : min (1040 - e) 64 = 1040 - e := by
      refine Nat.min_eq_left (Nat.not_lt.1 fun hh => ?_)
      rw [Nat.min_eq_right (by omega)] at hle
      exact absurd hle (by decide)
    rw [hn] at hx hsh hsl hle hpos
    have ho : off b = rq (4503599627370496 + b % 4503599627370496) (15625 * 2 ^ (1040 - e)) := by
      have hsm := pow_lt50 _ hle
      rw [← he]
      rw [← he] at hsm
      exact off_parts (by omega) ht
    obtain ⟨p, hp⟩ : ∃ p : Nat, 2 ^ (1040 - e) = p := ⟨_, rfl⟩
    rw [hp] at hx hsh hsl hle hpos ho
    obtain ⟨c, hcd⟩ : ∃ c : Nat, 15625 * p = c := ⟨_, rfl⟩
    obtain ⟨M, hMd⟩ : ∃ M : Nat, 4503599627370496 + b % 4503599627370496 = M := ⟨_, rfl⟩
    obtain ⟨m1, m2⟩ := mant_bounds b M hMd
    obtain ⟨c1, c2, c3⟩ := c_bounds p c hpos hle hcd
    have hm0 := mant h
    rw [c3] at hsl
    rw [hcd, hMd] at ho
    rw [hMd] at hm0
    exact parts_mid b M c _ _ h hs hsh hx (by rw [hm0]; exact IntWalk.wrap64_in _ ⟨by omega, by omega⟩) hsl ho m1 m2 c1 c2 w

end Go.Proofs.Ytfohfpeeghnocab
