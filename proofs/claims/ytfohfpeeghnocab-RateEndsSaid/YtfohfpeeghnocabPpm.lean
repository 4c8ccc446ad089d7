/- Package rate: Ppm, of any rate. -/
import Derived.Test.YtfohfpeeghnocabROf
namespace Go.Proofs.Ytfohfpeeghnocab
open Go.RowKit

theorem frombits_eq (n : Int) (w : World) : (callFunc 43 #[.int .u64 n]).run Try.prog w = .ok (.value (.float .f64 n.toNat)) w := by
  rw [run_callFunc_extern Try.func43 (by kernel_rfl) (by kernel_rfl) (by kernel_rfl) (e := Extern.MathFloatBits.float64frombits) (by kernel_rfl)]
  rfl
theorem nan_ret : Ret 30 #[] (.float .f64 9221120237041090561) := fun w => by
  have hb := fun W => frombits_eq 9221120237041090561 W
  rw [show (9221120237041090561 : Int).toNat = 9221120237041090561 from rfl] at hb
  go_enter Try.func30, Try.ntmps30
  go_wp2
  go_ret
  exact ⟨rfl, bRef w⟩

theorem ppm_not (r : Int) (HC : Ret 14 #[.int .i64 r] (.int .i64 50)) (w : World) :
    Calls Try.prog 16 #[.int .i64 r] w fun e w' => e = .returned (.float .f64 9221120237041090561) ∧ Below w.heap.size w w' := by
  have HN := nan_ret
  have HH := bRef w
  go_enter Try.func16, Try.ntmps16
  go_wp2_with (first
    | (go_at_call 14; (with_reducible refine (HC.go _).mono ?_); rintro e wx ⟨rfl, hb⟩; (first | replace HH := bTr HH hb | replace HH := bTr (bDr HH _) hb); clear hb)
    | (go_at_call 30; (with_reducible refine (HN.go _).mono ?_); rintro e wx ⟨rfl, hb⟩; (first | replace HH := bTr HH hb | replace HH := bTr (bDr HH _) hb); clear hb))
  go_ret
  exact ⟨rfl, HH⟩
theorem ppm_walk (r d n : Int) (x p : Nat) (HC : Ret 14 #[.int .i64 r] (.int .i64 0)) (hd : wrap64 (r - 2199023255552) = d) (hn : wrap64 (d * 15625) = n) (hx : floatOfInt .f64 n = x)
    (hp : floatBits .quo .f64 x 4764808405757984768 = some p) (w : World) :
    Calls Try.prog 16 #[.int .i64 r] w fun e w' => e = .returned (.float .f64 p) ∧ Below w.heap.size w w' := by
  have hq := fun (t : TypeId) (W : World) => run_float_arith (P := Try.prog) W .quo t .f64 x 4764808405757984768 p hp
  clear hp
  have HH := bRef w
  go_enter Try.func16, Try.ntmps16
  go_wp2_with (first
    | (go_at_call 14; (with_reducible refine (HC.go _).mono ?_); rintro e wx ⟨rfl, hb⟩; (first | replace HH := bTr HH hb | replace HH := bTr (bDr HH _) hb); clear hb))
  go_ret
  exact ⟨rfl, HH⟩

/-- The bits of what Ppm answers of a right rate that is so far from One. -/
def ppmL (d : Int) : Nat := (d.natAbs * 15625).log2
def ppmM (d : Int) : Nat := d.natAbs * 15625 * 2 ^ (52 - ppmL d)
def ppmB (d : Int) : Nat := if d = 0 then 0 else wordOf (decide (d < 0)) ((ppmL d + 987) * 4503599627370496 + ppmM d)
theorem ppm_bounds (d : Int) (h0 : d ≠ 0) (h1 : d.natAbs ≤ 17179869184) : ppmL d ≤ 47 ∧ 4503599627370496 ≤ ppmM d ∧ ppmM d < 9007199254740992 := by
  obtain ⟨_, a, b, c⟩ := nearest_int (d.natAbs * 15625) false (by omega) (by omega)
  exact ⟨a, b, c⟩

theorem ppm_ret {r : Int} (h : Right r) : Ret 16 #[.int .i64 r] (.float .f64 (ppmB (r - 2199023255552))) := fun w => by
  have HC := rCheck_ret r
  rw [if_pos h] at HC
  unfold Right at h
  obtain ⟨d, hd⟩ : ∃ d : Int, d = r - 2199023255552 := ⟨_, rfl⟩
  have e1 : wrap64 (r - 2199023255552) = d := by rw [← hd]; exact IntWalk.wrap64_in _ ⟨by omega, by omega⟩
  have e2 : wrap64 (d * 15625) = d * 15625 := IntWalk.wrap64_in _ ⟨by omega, by omega⟩
  rw [← hd]
  by_cases h0 : d = 0
  · rw [show ppmB d = 0 from if_pos h0]
    exact ppm_walk r d 0 0 0 HC e1 (by rw [e2, h0]; rfl) (by decide) (by decide) w
  · rw [show ppmB d = wordOf (decide (d < 0)) ((ppmL d + 987) * 4503599627370496 + ppmM d) from if_neg h0]
    obtain ⟨n1, n2, n3, n4⟩ := nearest_int (d.natAbs * 15625) (decide (d < 0)) (by omega) (by omega)
    have e3 : floatOfInt .f64 (d * 15625) = wordOf (decide (d < 0)) ((ppmL d + 1022) * 4503599627370496 + ppmM d) := by
      rw [← word_eq]
      have e4 : (d * 15625).natAbs = d.natAbs * 15625 := by omega
      have e5 : decide (d * 15625 < 0) = decide (d < 0) := decide_eq_decide.2 (by omega)
      have : floatOfInt .f64 (d * 15625) = Ieee.double.nearest (decide (d * 15625 < 0)) (d * 15625).natAbs 0 := rfl
      rw [this, e4, e5]
      exact n1
    obtain ⟨b1, b2, b3⟩ := ppm_bounds d h0 (by omega)
    exact ppm_walk r d _ _ _ HC e1 e2 e3 (div_exact _ _ _ b2 b3 b1) w

end Go.Proofs.Ytfohfpeeghnocab
