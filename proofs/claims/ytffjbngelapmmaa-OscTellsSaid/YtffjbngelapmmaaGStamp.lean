/- Package stamp: differences, grains (of a seat without the rest of it). -/
import Derived.Test.YtffjbngelapmmaaRate0
namespace Go.Proofs.Ytffjbngelapmmaa
open Go.RowKit

def InB (a : Int) : Bool := decide (-9223372036854775808 ≤ a) && decide (a < 9223372036854775808)
theorem inB_true {a : Int} (h : InB a = true) : In64 a := by
  unfold InB at h
  rw [Bool.and_eq_true, decide_eq_true_iff, decide_eq_true_iff] at h
  exact h
theorem inB_false {a : Int} (h : InB a = false) : a < -9223372036854775808 ∨ 9223372036854775808 ≤ a := by
  unfold InB at h
  rw [Bool.and_eq_false_iff, decide_eq_false_iff_not, decide_eq_false_iff_not] at h
  omega
theorem inB_of {a : Int} (h : In64 a) : InB a = true := by
  unfold InB
  rw [decide_eq_true h.1, decide_eq_true h.2]; rfl
/-- The value, if it fits; the error, if not. -/
def fitV (a : Int) : Int := if InB a = true then a else 0
def fitE (a : Int) : Int := if InB a = true then 0 else 10
def Fit (a : Int) : Value := .tuple #[.int .i64 (fitV a), .int .i64 (fitE a)]
theorem fitV_in {a : Int} (h : In64 a) : fitV a = a := by unfold fitV; rw [if_pos (inB_of h)]
theorem fitE_in {a : Int} (h : In64 a) : fitE a = 0 := by unfold fitE; rw [if_pos (inB_of h)]

theorem sub_go (s d v : Int) (b1 b2 : Bool) (hv : wrap64 (s - d) = v) (h1 : decide (s < v) = b1) (h2 : decide (d < 0) = b2) (w : World) :
    Calls Try.prog 34 #[.int .i64 s, .int .i64 d] w fun e w' => e = .returned (.tuple #[.int .i64 (if (b1 != b2) = true then 0 else v), .int .i64 (if (b1 != b2) = true then 10 else 0)]) ∧ Below w.heap.size w w' := by
  cases b1 <;> cases b2
  all_goals
    go_enter Try.func34, Try.ntmps34
    go_wp2_with fail
    go_ret2
    exact ⟨rfl, bRef w⟩
theorem sSub_ret {a b : Int} (ha : In64 a) (hb : In64 b) : Ret 34 #[.int .i64 a, .int .i64 b] (Fit (a - b)) := fun w => by
  unfold In64 at ha hb
  have H := sub_go a b _ _ _ rfl rfl rfl w
  unfold Fit fitV fitE
  cases h : InB (a - b)
  · have hf := inB_false h
    have e : (decide (a < wrap64 (a - b)) != decide (b < 0)) = true := by
      rw [bne_iff_ne, ne_eq, decide_eq_decide]; unfold wrap64; omega
    rw [e] at H
    exact H
  · have ht := inB_true h
    unfold In64 at ht
    have e2 : wrap64 (a - b) = a - b := by unfold wrap64; omega
    have e : (decide (a < a - b) != decide (b < 0)) = false := by
      rw [bne_eq_false_iff_eq, decide_eq_decide]; omega
    rw [e2, e] at H
    exact H

/-- Grain. -/
theorem grain_arg (s g : Int) (h : g < 1 ∨ 1048576 < g) (w : World) :
    Calls Try.prog 27 #[.int .i64 s, .int .i64 g] w fun e w' => e = .returned (.tuple #[.int .i64 0, .int .i64 1]) ∧ Below w.heap.size w w' := by
  rcases h with h | h
  · go_enter Try.func27, Try.ntmps27
    go_wp2_with fail
    go_ret2
    exact ⟨rfl, bRef w⟩
  · have h0 : ¬ g < 1 := by omega
    go_enter Try.func27, Try.ntmps27
    go_wp2_with fail
    go_ret2
    exact ⟨rfl, bRef w⟩
theorem grain_go (s g r v x : Int) (h1 : 1 ≤ g) (h2 : g ≤ 1048576) (hr : s.tmod (g * 65536) = r) (hn : ¬ r < 0)
    (HS : Ret 34 #[.int .i64 s, .int .i64 r] (.tuple #[.int .i64 v, .int .i64 x])) (w : World) :
    Calls Try.prog 27 #[.int .i64 s, .int .i64 g] w fun e w' => e = .returned (.tuple #[.int .i64 v, .int .i64 x]) ∧ Below w.heap.size w w' := by
  go_enter Try.func27, Try.ntmps27
  go_wp2_with (go_at_call 34; (with_reducible refine (HS.go _).mono ?_); rintro e w1 ⟨rfl, hb⟩)
  go_ret2
  exact ⟨rfl, hb⟩
theorem grain_neg (s g r q v x : Int) (h1 : 1 ≤ g) (h2 : g ≤ 1048576) (hr : s.tmod (g * 65536) = r) (hn : r < 0) (hn2 : -68719476736 < r) (hq : r + g * 65536 = q)
    (HS : Ret 34 #[.int .i64 s, .int .i64 q] (.tuple #[.int .i64 v, .int .i64 x])) (w : World) :
    Calls Try.prog 27 #[.int .i64 s, .int .i64 g] w fun e w' => e = .returned (.tuple #[.int .i64 v, .int .i64 x]) ∧ Below w.heap.size w w' := by
  go_enter Try.func27, Try.ntmps27
  go_wp2_with (go_at_call 34; (with_reducible refine (HS.go _).mono ?_); rintro e w1 ⟨rfl, hb⟩)
  go_ret2
  exact ⟨rfl, hb⟩

theorem grain_ret {s g : Int} (hs : In64 s) (h1 : 1 ≤ g) (h2 : g ≤ 1048576) : Ret 27 #[.int .i64 s, .int .i64 g] (Fit (s - s % (g * 65536))) := fun w => by
  obtain ⟨G, hG⟩ : ∃ G, g * 65536 = G := ⟨_, rfl⟩
  have hG0 : 0 < G := by omega
  have hm0 := Int.emod_nonneg s (show G ≠ 0 by omega)
  have hm1 := Int.emod_lt_of_pos s hG0
  have hlt : G ≤ 68719476736 := by omega
  have HS : Ret 34 #[.int .i64 s, .int .i64 (s % G)] (Fit (s - s % G)) := sSub_ret hs ⟨by omega, by omega⟩
  have ht := Int.tmod_eq_emod (a := s) (b := G)
  rw [hG]
  by_cases hc : 0 ≤ s ∨ G ∣ s
  · rw [if_pos hc] at ht
    exact grain_go s g (s % G) _ _ h1 h2 (by rw [hG]; omega) (by omega) HS w
  · rw [if_neg hc] at ht
    exact grain_neg s g (s % G - G) (s % G) _ _ h1 h2 (by rw [hG, ht]; omega) (by omega) (by omega) (by omega) HS w

end Go.Proofs.Ytffjbngelapmmaa
