/- Package stamp: differences, grains (of a seat without the rest of it). -/
import Derived.Test.YtfeoppbincldfaaPaRate
namespace Go.Proofs.Ytfeoppbincldfaa
open Go.RowKit

def InB (a : Int) : Bool := decide (-9223372036854775808 ≤ a) && decide (a < 9223372036854775808)
theorem inB_true {a : Int} (h : InB a = true) : In64 a := by
  unfold InB at h
  rw [Bool.and_eq_true, decide_eq_true_iff, decide_eq_true_iff] at h
  exact h
theorem inB_false {a : Int} (h : InB a = false) : a < -9223372036854775808 ∨ 9223372036854775808 ≤ a := by
  unfold InB at h
  rw [Bool.and_eq_false_iff, decide_eq_false_iff_not, decide_eq_false_iff_not] at h
  omega
theorem inB_of {a : Int} (h : In64 a) : InB a = true := by
  unfold InB
  rw [decide_eq_true h.1, decide_eq_true h.2]; rfl
/-- The value, if it fits; the error, if not. -/
def fitV (a : Int) : Int := if InB a = true then a else 0
def fitE (a : Int) : Int := if InB a = true then 0 else 10
def Fit (a : Int) : Value := .tuple #[.int .i64 (fitV a), .int .i64 (fitE a)]
theorem fitV_in {a : Int} (h : In64 a) : fitV a = a := by unfold fitV; rw [if_pos (inB_of h)]
theorem fitE_in {a : Int} (h : In64 a) : fitE a = 0 := by unfold fitE; rw [if_pos (inB_of h)]

theorem sub_go (s d v : Int) (b1 b2 : Bool) (hv : wrap64 (s - d) = v) (h1 : decide (s < v) = b1) (h2 : decide (d < 0) = b2) (w : World) :
    Calls Try.prog 46 #[.int .i64 s, .int .i64 d] w fun e w' => e = .returned (.tuple #[.int .i64 (if (b1 != b2) = true then 0 else v), .int .i64 (if (b1 != b2) = true then 10 else 0)]) ∧ Below w.heap.size w w' := by
  cases b1 <;> cases b2
  all_goals
    go_enter Try.func46, Try.ntmps46
    go_wp2_with fail
    go_ret2
    exact ⟨rfl, bRef w⟩
theorem sSub_ret {a b : Int} (ha : In64 a) (hb : In64 b) : Ret 46 #[.int .i64 a, .int .i64 b] (Fit (a - b)) := fun w => by
  unfold In64 at ha hb
  have H := sub_go a b _ _ _ rfl rfl rfl w
  unfold Fit fitV fitE
  cases h : InB (a - b)
  · have hf := inB_false h
    have e : (decide (a < wrap64 (a - b)) != decide (b < 0)) = true := by
      rw [bne_iff_ne, ne_eq, decide_eq_decide]; unfold wrap64; omega
    rw [e] at H
    exact H
  · have ht := inB_true h
    unfold In64 at ht
    have e2 : wrap64 (a - b) = a - b := by unfold wrap64; omega
    have e : (decide (a < a - b) != decide (b < 0)) = false := by
      rw [bne_eq_false_iff_eq, decide_eq_decide]; omega
    rw [e2, e] at H
    exact H

theorem add_go (s d v : Int) (b1 b2 : Bool) (hv : wrap64 (s + d) = v) (h1 : decide (v < s) = b1) (h2 : decide (d < 0) = b2) (w : World) :
    Calls Try.prog 49 #[.int .i64 s, .int .i64 d] w fun e w' => e = .returned (.tuple #[.int .i64 (if (b1 != b2) = true then 0 else v), .int .i64 (if (b1 != b2) = true then 10 else 0)]) ∧ Below w.heap.size w w' := by
  cases b1 <;> cases b2
  all_goals
    go_enter Try.func49, Try.ntmps49
    go_wp2_with fail
    go_ret2
    exact ⟨rfl, bRef w⟩
theorem sAdd_ret {a b : Int} (ha : In64 a) (hb : In64 b) : Ret 49 #[.int .i64 a, .int .i64 b] (Fit (a + b)) := fun w => by
  unfold In64 at ha hb
  have H := add_go a b _ _ _ rfl rfl rfl w
  unfold Fit fitV fitE
  cases h : InB (a + b)
  · have hf := inB_false h
    have e : (decide (wrap64 (a + b) < a) != decide (b < 0)) = true := by
      rw [bne_iff_ne, ne_eq, decide_eq_decide]; unfold wrap64; omega
    rw [e] at H
    exact H
  · have ht := inB_true h
    unfold In64 at ht
    have e2 : wrap64 (a + b) = a + b := by unfold wrap64; omega
    have e : (decide (a + b < a) != decide (b < 0)) = false := by
      rw [bne_eq_false_iff_eq, decide_eq_decide]; omega
    rw [e2, e] at H
    exact H
/-- By. -/
theorem by_ret {s r : Int} (hs : In64 s) (hr : In64 r) : Ret 47 #[.int .i64 s, .int .i64 r] (.tuple #[.int .i64 (rV r s 2199023255552), .int .i64 (rE r s 2199023255552)]) := fun w => by
  have HM := rMul_ret hr hs
  generalize rV r s 2199023255552 = v at *
  generalize rE r s 2199023255552 = x at *
  go_enter Try.func47, Try.ntmps47
  go_wp2_with (go_at_call 52; (with_reducible refine (HM.go _).mono ?_); rintro e wx ⟨rfl, hb⟩)
  go_ret2
  exact ⟨rfl, hb⟩
end Go.Proofs.Ytfeoppbincldfaa
