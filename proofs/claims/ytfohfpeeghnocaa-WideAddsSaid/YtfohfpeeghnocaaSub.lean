/- Differences of numbers of 128 bits. -/
import Derived.Test.YtfohfpeeghnocaaWide
namespace Go.Proofs.Ytfohfpeeghnocaa
open Go.RowKit

def sub64E : Array Value → Sem Value := (Extern.MathBitsCarry.rows.getD 1 ("x", fun _ => pure undef)).2
theorem run_sub64E {P : Program} (x y b : Int) (hx : 0 ≤ x) (hy : 0 ≤ y) (hb0 : 0 ≤ b) (hb : b ≤ 1) (hx2 : x < 18446744073709551616) (hy2 : y < 18446744073709551616) (w : World) :
    (sub64E #[.int .u64 x, .int .u64 y, .int .u64 b]).run P w =
      .ok (.tuple #[.int .u64 ((x - y - b) % 18446744073709551616), .int .u64 (if x < y + b then 1 else 0)]) w := by
  obtain ⟨X, rfl⟩ := Int.eq_ofNat_of_zero_le hx
  obtain ⟨Y, rfl⟩ := Int.eq_ofNat_of_zero_le hy
  obtain ⟨k, rfl⟩ := Int.eq_ofNat_of_zero_le hb0
  have key : (sub64E #[.int .u64 (X : Int), .int .u64 (Y : Int), .int .u64 (k : Int)]).run P w =
      .ok (Extern.MathBitsCarry.pair ((X + Extern.MathBitsCarry.m64 - Y - k) % Extern.MathBitsCarry.m64) (if X < Y + k then 1 else 0)) w := by
    have : k = 0 ∨ k = 1 := by omega
    rcases this with rfl | rfl <;> rfl
  rw [key]
  have e1 : Int.ofNat ((X + Extern.MathBitsCarry.m64 - Y - k) % Extern.MathBitsCarry.m64) = ((X : Int) - Y - k) % 18446744073709551616 := by
    show (((X + 18446744073709551616 - Y - k) % 18446744073709551616 : Nat) : Int) = _
    omega
  have e2 : Int.ofNat (if X < Y + k then 1 else 0) = if (X : Int) < Y + k then 1 else 0 := by
    by_cases h : X < Y + k
    · rw [if_pos h, if_pos (by omega)]; rfl
    · rw [if_neg h, if_neg (by omega)]; rfl
  unfold Extern.MathBitsCarry.pair
  rw [e1, e2]
theorem sub64_eq (x y b : Int) (hx : 0 ≤ x) (hy : 0 ≤ y) (hb0 : 0 ≤ b) (hb : b ≤ 1) (hx2 : x < 18446744073709551616) (hy2 : y < 18446744073709551616) (w : World) :
    (callFunc 32 #[.int .u64 x, .int .u64 y, .int .u64 b]).run Try.prog w =
      .ok (.value (.tuple #[.int .u64 ((x - y - b) % 18446744073709551616), .int .u64 (if x < y + b then 1 else 0)])) w := by
  rw [run_callFunc_extern Try.func32 (by kernel_rfl) (by kernel_rfl) (by kernel_rfl) (e := sub64E) (by kernel_rfl), run_sub64E x y b hx hy hb0 hb hx2 hy2]
  rfl

set_option maxHeartbeats 1000000 in
theorem wSub_ok (a1 a0 b1 b0 c : Int) (h1 : 0 ≤ a1) (h2 : 0 ≤ a0) (h3 : 0 ≤ b1) (h4 : 0 ≤ b0) (k1 : a1 < 18446744073709551616) (k2 : a0 < 18446744073709551616) (k3 : b1 < 18446744073709551616) (k4 : b0 < 18446744073709551616)
    (hc : (a0 < b0 ∧ c = 1) ∨ (b0 ≤ a0 ∧ c = 0)) (hok : b1 + c ≤ a1) (w : World) :
    Calls Try.prog 18 #[.agg #[.int .u64 a1, .int .u64 a0], .agg #[.int .u64 b1, .int .u64 b0]] w fun e w' =>
      e = .returned (.tuple #[.agg #[.int .u64 (a1 - b1 - c), .int .u64 ((a0 - b0) % 18446744073709551616)], .int .i64 0]) ∧ Below w.heap.size w w' := by
  have hc0 : 0 ≤ c := by omega
  have hc1 : c ≤ 1 := by omega
  have ec : (if a0 < b0 + 0 then (1 : Int) else 0) = c := by
    by_cases h : a0 < b0
    · rw [if_pos (by omega)]; omega
    · rw [if_neg (by omega)]; omega
  have ea := fun (W : World) => sub64_eq a0 b0 0 h2 h4 (by omega) (by omega) k2 k4 W
  have eb := fun (W : World) => sub64_eq a1 b1 c h1 h3 hc0 hc1 k1 k3 W
  rw [ec] at ea
  rw [if_neg (show ¬ a1 < b1 + c by omega)] at eb
  have hv : Value.tuple #[.agg #[.int .u64 ((a1 - b1 - c) % 18446744073709551616), .int .u64 ((a0 - b0) % 18446744073709551616)], .int .i64 0] = Value.tuple #[.agg #[.int .u64 (a1 - b1 - c), .int .u64 ((a0 - b0) % 18446744073709551616)], .int .i64 0] := by
    rw [Int.emod_eq_of_lt (show 0 ≤ a1 - b1 - c by omega) (by omega)]
  have HV := Lib.hid hv
  clear hv ec hc
  go_enter Try.func18, Try.ntmps18
  go_wp2
  exact bodyPost_ret (v := .tuple #[.agg #[.int .u64 ((a1 - b1 - c) % 18446744073709551616), .int .u64 ((a0 - b0) % 18446744073709551616)], .int .i64 0]) (by simp [results, Try.results18, go_sem]) rfl ⟨ret_eq HV.out, bAl (bAl (bAl (bRef w) _) _) _⟩

set_option maxHeartbeats 1000000 in
theorem wSub_under (a1 a0 b1 b0 c : Int) (h1 : 0 ≤ a1) (h2 : 0 ≤ a0) (h3 : 0 ≤ b1) (h4 : 0 ≤ b0) (k1 : a1 < 18446744073709551616) (k2 : a0 < 18446744073709551616) (k3 : b1 < 18446744073709551616) (k4 : b0 < 18446744073709551616)
    (hc : (a0 < b0 ∧ c = 1) ∨ (b0 ≤ a0 ∧ c = 0)) (hok : a1 < b1 + c) (w : World) :
    Calls Try.prog 18 #[.agg #[.int .u64 a1, .int .u64 a0], .agg #[.int .u64 b1, .int .u64 b0]] w fun e w' =>
      e = .returned (.tuple #[.agg #[.int .u64 0, .int .u64 0], .int .i64 10]) ∧ Below w.heap.size w w' := by
  have hc0 : 0 ≤ c := by omega
  have hc1 : c ≤ 1 := by omega
  have ec : (if a0 < b0 + 0 then (1 : Int) else 0) = c := by
    by_cases h : a0 < b0
    · rw [if_pos (by omega)]; omega
    · rw [if_neg (by omega)]; omega
  have ea := fun (W : World) => sub64_eq a0 b0 0 h2 h4 (by omega) (by omega) k2 k4 W
  have eb := fun (W : World) => sub64_eq a1 b1 c h1 h3 hc0 hc1 k1 k3 W
  rw [ec] at ea
  rw [if_pos hok] at eb
  clear ec hc
  go_enter Try.func18, Try.ntmps18
  go_wp2
  exact bodyPost_ret (v := .tuple #[.agg #[.int .u64 0, .int .u64 0], .int .i64 10]) (by simp [results, Try.results18, go_sem]) rfl ⟨rfl, bAl (bAl (bAl (bRef w) _) _) _⟩

end Go.Proofs.Ytfohfpeeghnocaa
