/- What wide.Of, Mul, Add and Sub come to. -/
import Derived.Test.YtjkgeoipkcjobaaProg
import Derived.Deep.RegionHeld3
import Derived.WalkKit
import Derived.WalkSpells
import Derived.WalkLawsBesides
import Derived.Laws.Externs
import Derived.Lib.Mul64
import Derived.Laws.Bits64b
import Derived.Lib.Hide
import Derived.Lib.BitFns
import Derived.Lib.Small
import Derived.Lib.Walk
namespace Go.Proofs.Ytjkgeoipkcjobaa
open Go.RowKit

theorem add64_eq (x y c : Int) (hx : 0 ≤ x) (hy : 0 ≤ y) (hc0 : 0 ≤ c) (hc : c ≤ 1) (w : World) :
    (callFunc 39 #[.int .u64 x, .int .u64 y, .int .u64 c]).run Try.prog w =
      .ok (.value (.tuple #[.int .u64 ((x + y + c) % 18446744073709551616), .int .u64 ((x + y + c) / 18446744073709551616)])) w := by
  rw [run_callFunc_extern Try.func39 (by kernel_rfl) (by kernel_rfl) (by kernel_rfl) (e := add64Entry) (by kernel_rfl), run_add64 x y c hx hy hc0 hc]
  rfl


theorem mask32 (a : Nat) (ha : a < 18446744073709551616) : bits .and .u64 (a : Int) 4294967295 = ((a % 4294967296 : Nat) : Int) := by
  have h := bits_and_u64_nat a 4294967295 ha (by omega)
  have e : a &&& 4294967295 = a % 4294967296 := Nat.and_two_pow_sub_one_eq_mod a 32
  rw [e] at h
  exact h

theorem ret_ii {k j : IntKind} {a b c d : Int} (h1 : a = b) (h2 : c = d) : Ending.returned (.tuple #[.int k a, .int j c]) = .returned (.tuple #[.int k b, .int j d]) := by rw [h1, h2]
theorem ret_i {k : IntKind} {a b : Int} (h : a = b) : Ending.returned (.int k a) = .returned (.int k b) := by rw [h]
theorem divN (a : Nat) : (a : Int) / 4294967296 = ((a / 4294967296 : Nat) : Int) := by omega
theorem wrapN (a : Nat) (ha : a < 18446744073709551616) : IntKind.u64.wrap (a : Int) = (a : Int) := by rw [IntKind.wrap_u64]; omega
theorem mulN (a b : Nat) : (a : Int) * (b : Int) = ((a * b : Nat) : Int) := (Int.natCast_mul a b).symm
theorem addN (a b : Nat) : (a : Int) + (b : Int) = ((a + b : Nat) : Int) := (Int.natCast_add a b).symm

theorem mul_hi (x y : Nat) (hx : x < 18446744073709551616) (hy : y < 18446744073709551616) :
    IntKind.u64.wrap (IntKind.u64.wrap (IntKind.u64.wrap ((x : Int) / 4294967296 * ((y : Int) / 4294967296)) +
      IntKind.u64.wrap (IntKind.u64.wrap ((x : Int) / 4294967296 * bits BinOp.and IntKind.u64 (y : Int) 4294967295) +
        IntKind.u64.wrap (bits BinOp.and IntKind.u64 (x : Int) 4294967295 * bits BinOp.and IntKind.u64 (y : Int) 4294967295) / 4294967296) / 4294967296) +
      IntKind.u64.wrap (bits BinOp.and IntKind.u64 (IntKind.u64.wrap (IntKind.u64.wrap ((x : Int) / 4294967296 * bits BinOp.and IntKind.u64 (y : Int) 4294967295) +
        IntKind.u64.wrap (bits BinOp.and IntKind.u64 (x : Int) 4294967295 * bits BinOp.and IntKind.u64 (y : Int) 4294967295) / 4294967296)) 4294967295 +
        IntKind.u64.wrap (bits BinOp.and IntKind.u64 (x : Int) 4294967295 * ((y : Int) / 4294967296))) / 4294967296) = (x : Int) * (y : Int) / 18446744073709551616 := by
  obtain ⟨bd, bt, bw, hhi⟩ := Lib.mul64_hi x y hx hy
  have ba := Lib.half_mul_le (a := x / 4294967296) (b := y / 4294967296) (by omega) (by omega)
  have bb := Lib.half_mul_le (a := x / 4294967296) (b := y % 4294967296) (by omega) (by omega)
  have bc := Lib.half_mul_le (a := x % 4294967296) (b := y / 4294967296) (by omega) (by omega)
  have bh1 : x / 4294967296 * (y / 4294967296) + (x / 4294967296 * (y % 4294967296) + x % 4294967296 * (y % 4294967296) / 4294967296) / 4294967296 < 18446744073709551616 := by omega
  have bh : x / 4294967296 * (y / 4294967296) + (x / 4294967296 * (y % 4294967296) + x % 4294967296 * (y % 4294967296) / 4294967296) / 4294967296 + ((x / 4294967296 * (y % 4294967296) + x % 4294967296 * (y % 4294967296) / 4294967296) % 4294967296 + x % 4294967296 * (y / 4294967296)) / 4294967296 < 18446744073709551616 := by omega
  simp only [mask32 x hx, mask32 y hy, divN, mulN, addN, wrapN _ bd, wrapN _ (show x / 4294967296 * (y % 4294967296) < 18446744073709551616 by omega), wrapN _ bt, mask32 _ bt, wrapN _ (show x % 4294967296 * (y / 4294967296) < 18446744073709551616 by omega), wrapN _ bw, wrapN _ (show x / 4294967296 * (y / 4294967296) < 18446744073709551616 by omega), wrapN _ bh1, wrapN _ bh]
  rw [hhi]
  omega

set_option maxHeartbeats 1000000 in
theorem mul64_any (x y : Int) (hx : 0 ≤ x) (hx2 : x < 18446744073709551616) (hy : 0 ≤ y) (hy2 : y < 18446744073709551616) (w : World) :
    Calls Try.prog 38 #[.int .u64 x, .int .u64 y] w fun e w' =>
      e = .returned (.tuple #[.int .u64 (x * y / 18446744073709551616), .int .u64 (x * y % 18446744073709551616)]) ∧ w = w' := by
  obtain ⟨X, rfl⟩ := Int.eq_ofNat_of_zero_le hx
  obtain ⟨Y, rfl⟩ := Int.eq_ofNat_of_zero_le hy
  go_enter Try.func38, Try.ntmps38
  go_wp2
  go_ret2
  exact ⟨ret_ii (mul_hi X Y (by omega) (by omega)) (IntKind.wrap_u64 _), rfl⟩

theorem bAl {w w' : World} (h : Below w.heap.size w w') (o : Obj) : Below w.heap.size w (w'.alloc o) := h.alloc h.size o
theorem bDr {w w' : World} (h : Below w.heap.size w w') (n : Nat) : Below w.heap.size w (w'.drewN n) := ⟨h.os, h.tape, h.output, h.size, h.block⟩
theorem bTr {w w1 w2 : World} (h : Below w.heap.size w w1) (k : Below w1.heap.size w1 w2) : Below w.heap.size w w2 := h.trans (k.mono h.size)
theorem bSet {w w' : World} (h : Below w.heap.size w w') (p : Addr) (hp : w.heap.size ≤ p.block) (v : Value) : Below w.heap.size w (w'.setCell p v) := h.setCell hp v
theorem bRef (w : World) : Below w.heap.size w w := Below.refl _ _
theorem ret_b {a b : Bool} (h : a = b) : Ending.returned (.bool a) = .returned (.bool b) := by rw [h]
theorem ret_eq {v u : Value} (h : v = u) : Ending.returned v = .returned u := by rw [h]
theorem agg2_eq {k j : IntKind} {a b c d : Int} (h1 : a = c) (h2 : b = d) : Value.agg #[.int k a, .int j b] = .agg #[.int k c, .int j d] := by rw [h1, h2]

set_option maxHeartbeats 1000000 in
theorem wOf (x : Int) (w : World) :
    Calls Try.prog 35 #[.int .u64 x] w fun e w' => e = .returned (.agg #[.int .u64 0, .int .u64 x]) ∧ Below w.heap.size w w' := by
  go_enter Try.func35, Try.ntmps35
  go_wp2
  exact bodyPost_ret (v := .agg #[.int .u64 0, .int .u64 x]) (by simp [results, Try.results35, go_sem]) rfl ⟨rfl, bAl (bRef w) _⟩

set_option maxHeartbeats 1000000 in
theorem wAdd_ok (a1 a0 b1 b0 : Int) (h1 : 0 ≤ a1) (h2 : 0 ≤ a0) (h3 : 0 ≤ b1) (h4 : 0 ≤ b0) (k1 : a1 < 18446744073709551616) (k2 : a0 < 18446744073709551616) (k3 : b1 < 18446744073709551616) (k4 : b0 < 18446744073709551616)
    (hok : a1 + b1 + (a0 + b0) / 18446744073709551616 < 18446744073709551616) (w : World) :
    Calls Try.prog 36 #[.agg #[.int .u64 a1, .int .u64 a0], .agg #[.int .u64 b1, .int .u64 b0]] w fun e w' =>
      e = .returned (.tuple #[.agg #[.int .u64 (a1 + b1 + (a0 + b0) / 18446744073709551616), .int .u64 ((a0 + b0) % 18446744073709551616)], .int .i64 0]) ∧ Below w.heap.size w w' := by
  have ea := fun (W : World) => add64_eq a0 b0 0 h2 h4 (by omega) (by omega) W
  have eb := fun (W : World) => add64_eq a1 b1 ((a0 + b0) / 18446744073709551616) h1 h3 (by omega) (by omega) W
  have hv : Value.tuple #[.agg #[.int .u64 ((a1 + b1 + (a0 + b0) / 18446744073709551616) % 18446744073709551616), .int .u64 ((a0 + b0) % 18446744073709551616)], .int .i64 0] = Value.tuple #[.agg #[.int .u64 (a1 + b1 + (a0 + b0) / 18446744073709551616), .int .u64 ((a0 + b0) % 18446744073709551616)], .int .i64 0] := by
    rw [Int.emod_eq_of_lt (by omega) hok]
  have HV := Lib.hid hv
  clear hv
  go_enter Try.func36, Try.ntmps36
  go_wp2
  exact bodyPost_ret (v := .tuple #[.agg #[.int .u64 ((a1 + b1 + (a0 + b0) / 18446744073709551616) % 18446744073709551616), .int .u64 ((a0 + b0) % 18446744073709551616)], .int .i64 0]) (by simp [results, Try.results36, go_sem]) rfl ⟨ret_eq HV.out, bAl (bAl (bAl (bRef w) _) _) _⟩

set_option maxHeartbeats 1000000 in
theorem wAdd_over (a1 a0 b1 b0 : Int) (h1 : 0 ≤ a1) (h2 : 0 ≤ a0) (h3 : 0 ≤ b1) (h4 : 0 ≤ b0) (k1 : a1 < 18446744073709551616) (k2 : a0 < 18446744073709551616) (k3 : b1 < 18446744073709551616) (k4 : b0 < 18446744073709551616)
    (hok : 18446744073709551616 ≤ a1 + b1 + (a0 + b0) / 18446744073709551616) (w : World) :
    Calls Try.prog 36 #[.agg #[.int .u64 a1, .int .u64 a0], .agg #[.int .u64 b1, .int .u64 b0]] w fun e w' =>
      e = .returned (.tuple #[.agg #[.int .u64 0, .int .u64 0], .int .i64 10]) ∧ Below w.heap.size w w' := by
  have ea := fun (W : World) => add64_eq a0 b0 0 h2 h4 (by omega) (by omega) W
  have eb := fun (W : World) => add64_eq a1 b1 ((a0 + b0) / 18446744073709551616) h1 h3 (by omega) (by omega) W
  go_enter Try.func36, Try.ntmps36
  go_wp2
  exact bodyPost_ret (v := .tuple #[.agg #[.int .u64 0, .int .u64 0], .int .i64 10]) (by simp [results, Try.results36, go_sem]) rfl ⟨rfl, bAl (bAl (bAl (bRef w) _) _) _⟩

set_option maxHeartbeats 1000000 in
theorem wMul (a b : Int) (h1 : 0 ≤ a) (h2 : 0 ≤ b) (k1 : a < 18446744073709551616) (k2 : b < 18446744073709551616) (w : World) :
    Calls Try.prog 30 #[.int .u64 a, .int .u64 b] w fun e w' => e = .returned (.agg #[.int .u64 (a * b / 18446744073709551616), .int .u64 (a * b % 18446744073709551616)]) ∧ Below w.heap.size w w' := by
  go_enter Try.func30, Try.ntmps30
  go_wp2_with (go_at_call 38; refine (mul64_any _ _ h1 k1 h2 k2 _).mono ?_; rintro e w' ⟨rfl, rfl⟩)
  exact bodyPost_ret (v := .agg #[.int .u64 (a * b / 18446744073709551616), .int .u64 (a * b % 18446744073709551616)]) (by simp [results, Try.results30, go_sem]) rfl ⟨rfl, bAl (bRef w) _⟩

def sub64E : Array Value → Sem Value := (Extern.MathBitsCarry.rows.getD 1 ("x", fun _ => pure undef)).2
theorem run_sub64E {P : Program} (x y b : Int) (hx : 0 ≤ x) (hy : 0 ≤ y) (hb0 : 0 ≤ b) (hb : b ≤ 1) (hx2 : x < 18446744073709551616) (hy2 : y < 18446744073709551616) (w : World) :
    (sub64E #[.int .u64 x, .int .u64 y, .int .u64 b]).run P w =
      .ok (.tuple #[.int .u64 ((x - y - b) % 18446744073709551616), .int .u64 (if x < y + b then 1 else 0)]) w := by
  obtain ⟨X, rfl⟩ := Int.eq_ofNat_of_zero_le hx
  obtain ⟨Y, rfl⟩ := Int.eq_ofNat_of_zero_le hy
  obtain ⟨k, rfl⟩ := Int.eq_ofNat_of_zero_le hb0
  have key : (sub64E #[.int .u64 (X : Int), .int .u64 (Y : Int), .int .u64 (k : Int)]).run P w =
      .ok (Extern.MathBitsCarry.pair ((X + Extern.MathBitsCarry.m64 - Y - k) % Extern.MathBitsCarry.m64) (if X < Y + k then 1 else 0)) w := by
    have : k = 0 ∨ k = 1 := by omega
    rcases this with rfl | rfl <;> rfl
  rw [key]
  have e1 : Int.ofNat ((X + Extern.MathBitsCarry.m64 - Y - k) % Extern.MathBitsCarry.m64) = ((X : Int) - Y - k) % 18446744073709551616 := by
    show (((X + 18446744073709551616 - Y - k) % 18446744073709551616 : Nat) : Int) = _
    omega
  have e2 : Int.ofNat (if X < Y + k then 1 else 0) = if (X : Int) < Y + k then 1 else 0 := by
    by_cases h : X < Y + k
    · rw [if_pos h, if_pos (by omega)]; rfl
    · rw [if_neg h, if_neg (by omega)]; rfl
  unfold Extern.MathBitsCarry.pair
  rw [e1, e2]
theorem sub64_eq (x y b : Int) (hx : 0 ≤ x) (hy : 0 ≤ y) (hb0 : 0 ≤ b) (hb : b ≤ 1) (hx2 : x < 18446744073709551616) (hy2 : y < 18446744073709551616) (w : World) :
    (callFunc 40 #[.int .u64 x, .int .u64 y, .int .u64 b]).run Try.prog w =
      .ok (.value (.tuple #[.int .u64 ((x - y - b) % 18446744073709551616), .int .u64 (if x < y + b then 1 else 0)])) w := by
  rw [run_callFunc_extern Try.func40 (by kernel_rfl) (by kernel_rfl) (by kernel_rfl) (e := sub64E) (by kernel_rfl), run_sub64E x y b hx hy hb0 hb hx2 hy2]
  rfl

set_option maxHeartbeats 1000000 in
theorem wSub_ok (a1 a0 b1 b0 c : Int) (h1 : 0 ≤ a1) (h2 : 0 ≤ a0) (h3 : 0 ≤ b1) (h4 : 0 ≤ b0) (k1 : a1 < 18446744073709551616) (k2 : a0 < 18446744073709551616) (k3 : b1 < 18446744073709551616) (k4 : b0 < 18446744073709551616)
    (hc : (a0 < b0 ∧ c = 1) ∨ (b0 ≤ a0 ∧ c = 0)) (hok : b1 + c ≤ a1) (w : World) :
    Calls Try.prog 37 #[.agg #[.int .u64 a1, .int .u64 a0], .agg #[.int .u64 b1, .int .u64 b0]] w fun e w' =>
      e = .returned (.tuple #[.agg #[.int .u64 (a1 - b1 - c), .int .u64 ((a0 - b0) % 18446744073709551616)], .int .i64 0]) ∧ Below w.heap.size w w' := by
  have hc0 : 0 ≤ c := by omega
  have hc1 : c ≤ 1 := by omega
  have ec : (if a0 < b0 + 0 then (1 : Int) else 0) = c := by
    by_cases h : a0 < b0
    · rw [if_pos (by omega)]; omega
    · rw [if_neg (by omega)]; omega
  have ea := fun (W : World) => sub64_eq a0 b0 0 h2 h4 (by omega) (by omega) k2 k4 W
  have eb := fun (W : World) => sub64_eq a1 b1 c h1 h3 hc0 hc1 k1 k3 W
  rw [ec] at ea
  rw [if_neg (show ¬ a1 < b1 + c by omega)] at eb
  have hv : Value.tuple #[.agg #[.int .u64 ((a1 - b1 - c) % 18446744073709551616), .int .u64 ((a0 - b0) % 18446744073709551616)], .int .i64 0] = Value.tuple #[.agg #[.int .u64 (a1 - b1 - c), .int .u64 ((a0 - b0) % 18446744073709551616)], .int .i64 0] := by
    rw [Int.emod_eq_of_lt (show 0 ≤ a1 - b1 - c by omega) (by omega)]
  have HV := Lib.hid hv
  clear hv ec hc
  go_enter Try.func37, Try.ntmps37
  go_wp2
  exact bodyPost_ret (v := .tuple #[.agg #[.int .u64 ((a1 - b1 - c) % 18446744073709551616), .int .u64 ((a0 - b0) % 18446744073709551616)], .int .i64 0]) (by simp [results, Try.results37, go_sem]) rfl ⟨ret_eq HV.out, bAl (bAl (bAl (bRef w) _) _) _⟩

set_option maxHeartbeats 1000000 in
theorem wSub_under (a1 a0 b1 b0 c : Int) (h1 : 0 ≤ a1) (h2 : 0 ≤ a0) (h3 : 0 ≤ b1) (h4 : 0 ≤ b0) (k1 : a1 < 18446744073709551616) (k2 : a0 < 18446744073709551616) (k3 : b1 < 18446744073709551616) (k4 : b0 < 18446744073709551616)
    (hc : (a0 < b0 ∧ c = 1) ∨ (b0 ≤ a0 ∧ c = 0)) (hok : a1 < b1 + c) (w : World) :
    Calls Try.prog 37 #[.agg #[.int .u64 a1, .int .u64 a0], .agg #[.int .u64 b1, .int .u64 b0]] w fun e w' =>
      e = .returned (.tuple #[.agg #[.int .u64 0, .int .u64 0], .int .i64 10]) ∧ Below w.heap.size w w' := by
  have hc0 : 0 ≤ c := by omega
  have hc1 : c ≤ 1 := by omega
  have ec : (if a0 < b0 + 0 then (1 : Int) else 0) = c := by
    by_cases h : a0 < b0
    · rw [if_pos (by omega)]; omega
    · rw [if_neg (by omega)]; omega
  have ea := fun (W : World) => sub64_eq a0 b0 0 h2 h4 (by omega) (by omega) k2 k4 W
  have eb := fun (W : World) => sub64_eq a1 b1 c h1 h3 hc0 hc1 k1 k3 W
  rw [ec] at ea
  rw [if_pos hok] at eb
  clear ec hc
  go_enter Try.func37, Try.ntmps37
  go_wp2
  exact bodyPost_ret (v := .tuple #[.agg #[.int .u64 0, .int .u64 0], .int .i64 10]) (by simp [results, Try.results37, go_sem]) rfl ⟨rfl, bAl (bAl (bAl (bRef w) _) _) _⟩

theorem uAdd0 (X y sh sl xh xl : Int) (h0 : 0 ≤ X) (h1 : X < 340282366920938463463374607431768211456) (h2 : 0 ≤ y) (h3 : y < 9223372036854775808) (h4 : X + y < 340282366920938463463374607431768211456) (e1 : xh = X / 18446744073709551616) (e2 : xl = X % 18446744073709551616) (e3 : sh = (X + y) / 18446744073709551616) (e4 : sl = (X + y) % 18446744073709551616) (w : World) :
    Calls Try.prog 36 #[.agg #[.int .u64 xh, .int .u64 xl], .agg #[.int .u64 0, .int .u64 y]] w fun e w' => e = .returned (.tuple #[.agg #[.int .u64 sh, .int .u64 sl], .int .i64 0]) ∧ Below w.heap.size w w' := by
  have H := wAdd_ok xh xl 0 y (by omega) (by omega) (by omega) h2 (by omega) (by omega) (by omega) (by omega) (by omega) w
  have a1 : xh + 0 + (xl + y) / 18446744073709551616 = sh := by omega
  have a2 : (xl + y) % 18446744073709551616 = sl := by omega
  rw [a1, a2] at H
  exact H
theorem uSub0_ok (X y lh ll xh xl : Int) (h0 : 0 ≤ X) (h1 : X < 340282366920938463463374607431768211456) (h2 : 0 ≤ y) (h3 : y < 18446744073709551616) (h4 : y ≤ X) (e1 : xh = X / 18446744073709551616) (e2 : xl = X % 18446744073709551616) (e3 : lh = (X - y) / 18446744073709551616) (e4 : ll = (X - y) % 18446744073709551616) (w : World) :
    Calls Try.prog 37 #[.agg #[.int .u64 xh, .int .u64 xl], .agg #[.int .u64 0, .int .u64 y]] w fun e w' => e = .returned (.tuple #[.agg #[.int .u64 lh, .int .u64 ll], .int .i64 0]) ∧ Below w.heap.size w w' := by
  by_cases hc : xl < y
  · have H := wSub_ok xh xl 0 y 1 (by omega) (by omega) (by omega) h2 (by omega) (by omega) (by omega) h3 (.inl ⟨hc, rfl⟩) (by omega) w
    have a1 : xh - 0 - 1 = lh := by omega
    have a2 : (xl - y) % 18446744073709551616 = ll := by omega
    rw [a1, a2] at H
    exact H
  · have H := wSub_ok xh xl 0 y 0 (by omega) (by omega) (by omega) h2 (by omega) (by omega) (by omega) h3 (.inr ⟨by omega, rfl⟩) (by omega) w
    have a1 : xh - 0 - 0 = lh := by omega
    have a2 : (xl - y) % 18446744073709551616 = ll := by omega
    rw [a1, a2] at H
    exact H
theorem uSub0_under (X y xh xl : Int) (h0 : 0 ≤ X) (h2 : 0 ≤ y) (h3 : y < 18446744073709551616) (h4 : X < y) (e1 : xh = X / 18446744073709551616) (e2 : xl = X % 18446744073709551616) (w : World) :
    Calls Try.prog 37 #[.agg #[.int .u64 xh, .int .u64 xl], .agg #[.int .u64 0, .int .u64 y]] w fun e w' => e = .returned (.tuple #[.agg #[.int .u64 0, .int .u64 0], .int .i64 10]) ∧ Below w.heap.size w w' :=
  wSub_under xh xl 0 y 1 (by omega) (by omega) (by omega) h2 (by omega) (by omega) (by omega) h3 (.inl ⟨by omega, rfl⟩) (by omega) w

end Go.Proofs.Ytjkgeoipkcjobaa
