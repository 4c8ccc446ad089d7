/- RateMakes: the rate of any float, or why there is none. -/
import Derived.Test.YtfohfpeeghnocabRefOf
namespace Go.Proofs.Ytfohfpeeghnocab
open Go.RowKit

theorem makes_not (b : Nat) (V E : Int) (hE : (E != 0) = true) (H0 : Ret 10 #[] (.bool true)) (H1 : Ret 11 #[.float .f64 b] (.tuple #[.int .i64 V, .int .i64 E])) (H2 : Ret 12 #[.int .u64 (b : Int)] (.tuple #[.int .i64 V, .int .i64 E])) (w : World) :
    Calls Try.prog 3 #[.float .f64 b] w fun e w' => e = .returned (.bool true) ∧ Below w.heap.size w w' := by
  have hb := fun W => f64bits_eq b W
  have HH := bRef w
  go_enter Try.func3, Try.ntmps3
  go_wp2_with (first
    | (go_at_call 10; (with_reducible refine (H0.go _).mono ?_); rintro e wx ⟨rfl, hb⟩; (first | replace HH := bTr HH hb | replace HH := bTr (bDr HH _) hb); clear hb)
    | (go_at_call 11; (with_reducible refine (H1.go _).mono ?_); rintro e wx ⟨rfl, hb⟩; (first | replace HH := bTr HH hb | replace HH := bTr (bDr HH _) hb); clear hb)
    | (go_at_call 12; (with_reducible refine (H2.go _).mono ?_); rintro e wx ⟨rfl, hb⟩; (first | replace HH := bTr HH hb | replace HH := bTr (bDr HH _) hb); clear hb))
  go_ret
  exact ⟨by simp, HH⟩

theorem makes_ok (b : Nat) (V : Int) (HC : Ret 14 #[.int .i64 V] (.int .i64 0)) (H0 : Ret 10 #[] (.bool true)) (H1 : Ret 11 #[.float .f64 b] (.tuple #[.int .i64 V, .int .i64 0])) (H2 : Ret 12 #[.int .u64 (b : Int)] (.tuple #[.int .i64 V, .int .i64 0])) (w : World) :
    Calls Try.prog 3 #[.float .f64 b] w fun e w' => e = .returned (.bool true) ∧ Below w.heap.size w w' := by
  have hb := fun W => f64bits_eq b W
  have HH := bRef w
  go_enter Try.func3, Try.ntmps3
  go_wp2_with (first
    | (go_at_call 10; (with_reducible refine (H0.go _).mono ?_); rintro e wx ⟨rfl, hb⟩; (first | replace HH := bTr HH hb | replace HH := bTr (bDr HH _) hb); clear hb)
    | (go_at_call 11; (with_reducible refine (H1.go _).mono ?_); rintro e wx ⟨rfl, hb⟩; (first | replace HH := bTr HH hb | replace HH := bTr (bDr HH _) hb); clear hb)
    | (go_at_call 12; (with_reducible refine (H2.go _).mono ?_); rintro e wx ⟨rfl, hb⟩; (first | replace HH := bTr HH hb | replace HH := bTr (bDr HH _) hb); clear hb)
    | (go_at_call 14; (with_reducible refine (HC.go _).mono ?_); rintro e wx ⟨rfl, hb⟩; (first | replace HH := bTr HH hb | replace HH := bTr (bDr HH _) hb); clear hb))
  go_ret
  exact ⟨by simp, HH⟩

theorem makes_walk (b : Nat) (h : b < 18446744073709551616) (w : World) :
    Calls Try.prog 3 #[.float .f64 b] w fun e w' => e = .returned (.bool true) ∧ Below w.heap.size w w' := by
  have H1 := of_ret h
  have H2 := refOf_ret h
  by_cases h1 : ofE b = 0
  · rw [h1] at H1 H2
    have h2 : rung b ≤ 4662219572839972864 := by
      unfold ofE at h1
      split at h1
      · omega
      · split at h1
        · omega
        · split at h1 <;> omega
    have h3 : ofV b = 2199023255552 + soff b := if_neg (by omega)
    have h4 := soff_le h2
    have HC := rCheck_ret (ofV b)
    rw [if_pos (show Right (ofV b) by unfold Right; omega)] at HC
    exact makes_ok b _ HC made_ret H1 H2 w
  · exact makes_not b _ _ (by rw [bne_iff_ne]; exact h1) made_ret H1 H2 w

end Go.Proofs.Ytfohfpeeghnocab
