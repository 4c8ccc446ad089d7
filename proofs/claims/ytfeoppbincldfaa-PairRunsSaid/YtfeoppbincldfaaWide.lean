/- What the functions of package wide come to: numbers of 128 bits. -/
import Derived.Test.YtfeoppbincldfaaDiv
import Derived.Deep.RegionHeld3
namespace Go.Proofs.Ytfeoppbincldfaa
open Go.RowKit

theorem bAl {w w' : World} (h : Below w.heap.size w w') (o : Obj) : Below w.heap.size w (w'.alloc o) := h.alloc h.size o
theorem bDr {w w' : World} (h : Below w.heap.size w w') (n : Nat) : Below w.heap.size w (w'.drewN n) := ⟨h.os, h.tape, h.output, h.size, h.block⟩
theorem bTr {w w1 w2 : World} (h : Below w.heap.size w w1) (k : Below w1.heap.size w1 w2) : Below w.heap.size w w2 := h.trans (k.mono h.size)
theorem bSet {w w' : World} (h : Below w.heap.size w w') (p : Addr) (hp : w.heap.size ≤ p.block) (v : Value) : Below w.heap.size w (w'.setCell p v) := h.setCell hp v
theorem bRef (w : World) : Below w.heap.size w w := Below.refl _ _
theorem ret_b {a b : Bool} (h : a = b) : Ending.returned (.bool a) = .returned (.bool b) := by rw [h]
theorem ret_eq {v u : Value} (h : v = u) : Ending.returned v = .returned u := by rw [h]
theorem agg2_eq {k j : IntKind} {a b c d : Int} (h1 : a = c) (h2 : b = d) : Value.agg #[.int k a, .int j b] = .agg #[.int k c, .int j d] := by rw [h1, h2]

set_option maxHeartbeats 1000000 in
theorem wOf (x : Int) (w : World) :
    Calls Try.prog 108 #[.int .u64 x] w fun e w' => e = .returned (.agg #[.int .u64 0, .int .u64 x]) ∧ Below w.heap.size w w' := by
  go_enter Try.func108, Try.ntmps108
  go_wp2
  exact bodyPost_ret (v := .agg #[.int .u64 0, .int .u64 x]) (by simp [results, Try.results108, go_sem]) rfl ⟨rfl, bAl (bRef w) _⟩

set_option maxHeartbeats 1000000 in
theorem wAdd_ok (a1 a0 b1 b0 : Int) (h1 : 0 ≤ a1) (h2 : 0 ≤ a0) (h3 : 0 ≤ b1) (h4 : 0 ≤ b0) (k1 : a1 < 18446744073709551616) (k2 : a0 < 18446744073709551616) (k3 : b1 < 18446744073709551616) (k4 : b0 < 18446744073709551616)
    (hok : a1 + b1 + (a0 + b0) / 18446744073709551616 < 18446744073709551616) (w : World) :
    Calls Try.prog 107 #[.agg #[.int .u64 a1, .int .u64 a0], .agg #[.int .u64 b1, .int .u64 b0]] w fun e w' =>
      e = .returned (.tuple #[.agg #[.int .u64 (a1 + b1 + (a0 + b0) / 18446744073709551616), .int .u64 ((a0 + b0) % 18446744073709551616)], .int .i64 0]) ∧ Below w.heap.size w w' := by
  have ea := fun (W : World) => add64_eq a0 b0 0 h2 h4 (by omega) (by omega) W
  have eb := fun (W : World) => add64_eq a1 b1 ((a0 + b0) / 18446744073709551616) h1 h3 (by omega) (by omega) W
  have hv : Value.tuple #[.agg #[.int .u64 ((a1 + b1 + (a0 + b0) / 18446744073709551616) % 18446744073709551616), .int .u64 ((a0 + b0) % 18446744073709551616)], .int .i64 0] = Value.tuple #[.agg #[.int .u64 (a1 + b1 + (a0 + b0) / 18446744073709551616), .int .u64 ((a0 + b0) % 18446744073709551616)], .int .i64 0] := by
    rw [Int.emod_eq_of_lt (by omega) hok]
  have HV := Lib.hid hv
  clear hv
  go_enter Try.func107, Try.ntmps107
  go_wp2
  exact bodyPost_ret (v := .tuple #[.agg #[.int .u64 ((a1 + b1 + (a0 + b0) / 18446744073709551616) % 18446744073709551616), .int .u64 ((a0 + b0) % 18446744073709551616)], .int .i64 0]) (by simp [results, Try.results107, go_sem]) rfl ⟨ret_eq HV.out, bAl (bAl (bAl (bRef w) _) _) _⟩

set_option maxHeartbeats 1000000 in
theorem wAdd_over (a1 a0 b1 b0 : Int) (h1 : 0 ≤ a1) (h2 : 0 ≤ a0) (h3 : 0 ≤ b1) (h4 : 0 ≤ b0) (k1 : a1 < 18446744073709551616) (k2 : a0 < 18446744073709551616) (k3 : b1 < 18446744073709551616) (k4 : b0 < 18446744073709551616)
    (hok : 18446744073709551616 ≤ a1 + b1 + (a0 + b0) / 18446744073709551616) (w : World) :
    Calls Try.prog 107 #[.agg #[.int .u64 a1, .int .u64 a0], .agg #[.int .u64 b1, .int .u64 b0]] w fun e w' =>
      e = .returned (.tuple #[.agg #[.int .u64 0, .int .u64 0], .int .i64 10]) ∧ Below w.heap.size w w' := by
  have ea := fun (W : World) => add64_eq a0 b0 0 h2 h4 (by omega) (by omega) W
  have eb := fun (W : World) => add64_eq a1 b1 ((a0 + b0) / 18446744073709551616) h1 h3 (by omega) (by omega) W
  go_enter Try.func107, Try.ntmps107
  go_wp2
  exact bodyPost_ret (v := .tuple #[.agg #[.int .u64 0, .int .u64 0], .int .i64 10]) (by simp [results, Try.results107, go_sem]) rfl ⟨rfl, bAl (bAl (bAl (bRef w) _) _) _⟩

set_option maxHeartbeats 1000000 in
theorem wMul (a b : Int) (h1 : 0 ≤ a) (h2 : 0 ≤ b) (k1 : a < 18446744073709551616) (k2 : b < 18446744073709551616) (w : World) :
    Calls Try.prog 103 #[.int .u64 a, .int .u64 b] w fun e w' => e = .returned (.agg #[.int .u64 (a * b / 18446744073709551616), .int .u64 (a * b % 18446744073709551616)]) ∧ Below w.heap.size w w' := by
  go_enter Try.func103, Try.ntmps103
  go_wp2_with (go_at_call 124; refine (mul64_any _ _ h1 k1 h2 k2 _).mono ?_; rintro e w' ⟨rfl, rfl⟩)
  exact bodyPost_ret (v := .agg #[.int .u64 (a * b / 18446744073709551616), .int .u64 (a * b % 18446744073709551616)]) (by simp [results, Try.results103, go_sem]) rfl ⟨rfl, bAl (bRef w) _⟩

theorem wCmp_lt (a1 a0 b1 b0 : Int) (h : a1 < b1 ∨ a1 = b1 ∧ a0 < b0) (w : World) :
    Calls Try.prog 127 #[.agg #[.int .u64 a1, .int .u64 a0], .agg #[.int .u64 b1, .int .u64 b0]] w fun e w' =>
      e = .returned (.int .i64 (-1)) ∧ Below w.heap.size w w' := by
  rcases h with h | ⟨rfl, h⟩
  all_goals
    go_enter Try.func127, Try.ntmps127
    go_wp2
    all_goals
      go_ret
      exact ⟨rfl, bAl (bAl (bRef w) _) _⟩
theorem wCmp_eq (a1 a0 : Int) (w : World) :
    Calls Try.prog 127 #[.agg #[.int .u64 a1, .int .u64 a0], .agg #[.int .u64 a1, .int .u64 a0]] w fun e w' =>
      e = .returned (.int .i64 0) ∧ Below w.heap.size w w' := by
  go_enter Try.func127, Try.ntmps127
  go_wp2
  all_goals
    go_ret
    exact ⟨rfl, bAl (bAl (bRef w) _) _⟩
theorem wCmp_gt (a1 a0 b1 b0 : Int) (h : b1 < a1 ∨ a1 = b1 ∧ b0 < a0) (w : World) :
    Calls Try.prog 127 #[.agg #[.int .u64 a1, .int .u64 a0], .agg #[.int .u64 b1, .int .u64 b0]] w fun e w' =>
      e = .returned (.int .i64 1) ∧ Below w.heap.size w w' := by
  rcases h with h | ⟨rfl, h⟩
  all_goals
    go_enter Try.func127, Try.ntmps127
    go_wp2
    all_goals
      go_ret
      exact ⟨rfl, bAl (bAl (bRef w) _) _⟩

set_option maxHeartbeats 1000000 in
theorem wDiv (a1 a0 b : Int) (h1 : 0 ≤ a1) (h2 : 0 ≤ a0) (h3 : 0 < b) (k1 : a1 < 18446744073709551616) (k2 : a0 < 18446744073709551616) (k3 : b < 18446744073709551616) (w : World) :
    Calls Try.prog 104 #[.agg #[.int .u64 a1, .int .u64 a0], .int .u64 b] w fun e w' =>
      e = .returned (.tuple #[.agg #[.int .u64 (a1 / b), .int .u64 ((a1 % b * 18446744073709551616 + a0) / b)], .int .u64 ((a1 % b * 18446744073709551616 + a0) % b), .int .i64 0]) ∧ Below w.heap.size w w' := by
  have hz : (b == 0) = false := by rw [beq_eq_false_iff_ne]; omega
  have c1 := Int.emod_nonneg a1 (show b ≠ 0 by omega)
  have c2 := Int.emod_lt_of_pos a1 h3
  go_enter Try.func104, Try.ntmps104
  go_wp2
  go_quiet ((go_at_call 125; exact Calls.quiet_of (div64_any _ _ _ c1 c2 k3 h2 k2 _)))
  go_wp2
  exact bodyPost_ret (v := .tuple #[.agg #[.int .u64 (a1 / b), .int .u64 ((a1 % b * 18446744073709551616 + a0) / b)], .int .u64 ((a1 % b * 18446744073709551616 + a0) % b), .int .i64 0]) (by simp [results, Try.results104, go_sem]) rfl
    ⟨rfl, by repeat (first | exact bRef _ | refine bDr ?_ _ | refine bAl ?_ _ | refine bSet ?_ _ (by simp) _)⟩

theorem wDiv_zero (a1 a0 : Int) (w : World) :
    Calls Try.prog 104 #[.agg #[.int .u64 a1, .int .u64 a0], .int .u64 0] w fun e w' =>
      e = .returned (.tuple #[.agg #[.int .u64 0, .int .u64 0], .int .u64 0, .int .i64 11]) ∧ Below w.heap.size w w' := by
  go_enter Try.func104, Try.ntmps104
  go_wp2
  exact bodyPost_ret (v := .tuple #[.agg #[.int .u64 0, .int .u64 0], .int .u64 0, .int .i64 11]) (by simp [results, Try.results104, go_sem]) rfl
    ⟨rfl, by repeat (first | exact bRef _ | refine bDr ?_ _ | refine bAl ?_ _ | refine bSet ?_ _ (by simp) _)⟩

theorem wSize (x : Int) (h1 : -9223372036854775808 ≤ x) (h2 : x < 9223372036854775808) (w : World) :
    Calls Try.prog 102 #[.int .i64 x] w fun e w' => e = .returned (.int .u64 (x.natAbs : Int)) ∧ w = w' := by
  rcases Int.lt_or_le x 0 with h | h
  · go_enter Try.func102, Try.ntmps102
    go_wp2
    go_ret
    exact ⟨ret_i (by simp only [IntKind.wrap_u64]; omega), rfl⟩
  · go_enter Try.func102, Try.ntmps102
    go_wp2
    go_ret
    exact ⟨ret_i (by omega), rfl⟩

def neg (a b c : Int) : Bool := (decide (a < 0) != decide (b < 0)) != decide (c < 0)
theorem wIsBelow (a b c : Int) (w : World) :
    Calls Try.prog 105 #[.int .i64 a, .int .i64 b, .int .i64 c] w fun e w' => e = .returned (.bool (neg a b c)) ∧ w = w' := by
  go_enter Try.func105, Try.ntmps105
  go_wp2
  go_ret
  exact ⟨rfl, rfl⟩

def goes (lo left by_ : Int) (below : Bool) (round : Int) : Bool :=
  if left = 0 then false else if round = 0 then below else if round = 1 then !below
  else if left = by_ - left then decide (lo % 2 = 1) else decide (by_ - left < left)

theorem wGoes (hi lo left by_ round : Int) (below : Bool) (h1 : 0 ≤ left) (h2 : left < by_) (h3 : by_ < 18446744073709551616) (h4 : 0 ≤ lo) (w : World) :
    Calls Try.prog 106 #[.agg #[.int .u64 hi, .int .u64 lo], .int .u64 left, .int .u64 by_, .bool below, .int .i64 round] w fun e w' =>
      e = .returned (.bool (goes lo left by_ below round)) ∧ Below w.heap.size w w' := by
  go_enter Try.func106, Try.ntmps106
  go_wp2
  all_goals
    go_ret
    refine ⟨ret_b ?_, bAl (bRef w) _⟩
  · have h : (left == 0) = true := by assumption
    simp [goes, beq_iff_eq.1 h]
  · have h : (left == 0) = false := by assumption
    have k : (round == 0) = true := by assumption
    simp [goes, beq_eq_false_iff_ne.1 h, beq_iff_eq.1 k]
  · have h : (left == 0) = false := by assumption
    have k : (round == 1) = true := by assumption
    simp [goes, beq_eq_false_iff_ne.1 h, beq_iff_eq.1 k]
  · have h : (left == 0) = false := by assumption
    have k : (round == 0) = false := by assumption
    have l : (round == 1) = false := by assumption
    have m : (left == by_ - left) = true := by assumption
    unfold goes
    rw [if_neg (beq_eq_false_iff_ne.1 h), if_neg (beq_eq_false_iff_ne.1 k), if_neg (beq_eq_false_iff_ne.1 l), if_pos (beq_iff_eq.1 m)]
    rw [Bool.eq_iff_iff]; simp
  · have h : (left == 0) = false := by assumption
    have k : (round == 0) = false := by assumption
    have l : (round == 1) = false := by assumption
    have m : (left == by_ - left) = false := by assumption
    unfold goes
    rw [if_neg (beq_eq_false_iff_ne.1 h), if_neg (beq_eq_false_iff_ne.1 k), if_neg (beq_eq_false_iff_ne.1 l), if_neg (beq_eq_false_iff_ne.1 m)]

end Go.Proofs.Ytfeoppbincldfaa
