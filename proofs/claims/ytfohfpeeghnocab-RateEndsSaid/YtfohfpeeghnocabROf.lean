/- Package rate: Of, of any float. -/
import Derived.Test.YtfohfpeeghnocabFloats
namespace Go.Proofs.Ytfohfpeeghnocab
open Go.RowKit

def ofE (b : Nat) : Int := if 9218868437227405312 < rung b then 12 else if rung b = 9218868437227405312 then 13 else if 4662219572839972864 < rung b then 50 else 0
def ofV (b : Nat) : Int := if 4662219572839972864 < rung b then 0 else 2199023255552 + soff b

theorem of_nan (b : Nat) (HN : RetQ 34 #[.float .f64 b] (.bool true)) (w : World) :
    Calls Try.prog 11 #[.float .f64 b] w fun e w' => e = .returned (.tuple #[.int .i64 0, .int .i64 12]) ∧ Below w.heap.size w w' := by
  have HH := bRef w
  go_enter Try.func11, Try.ntmps11
  go_wp2_with (first
    | (go_at_call 34; (with_reducible refine (HN.go _).mono ?_); rintro e wx ⟨rfl, rfl⟩))
  go_ret2
  exact ⟨rfl, HH⟩

theorem of_inf (b : Nat) (HN : RetQ 34 #[.float .f64 b] (.bool false)) (HE : RetQ 35 #[.float .f64 b] (.bool true)) (w : World) :
    Calls Try.prog 11 #[.float .f64 b] w fun e w' => e = .returned (.tuple #[.int .i64 0, .int .i64 13]) ∧ Below w.heap.size w w' := by
  have HH := bRef w
  go_enter Try.func11, Try.ntmps11
  go_wp2_with (first
    | (go_at_call 34; (with_reducible refine (HN.go _).mono ?_); rintro e wx ⟨rfl, rfl⟩)
    | (go_at_call 35; (with_reducible refine (HE.go _).mono ?_); rintro e wx ⟨rfl, rfl⟩))
  go_ret2
  exact ⟨rfl, HH⟩

theorem of_gt (b : Nat) (HN : RetQ 34 #[.float .f64 b] (.bool false)) (HE : RetQ 35 #[.float .f64 b] (.bool false)) (hg : (FloatKind.f64.format.order b 4662219572839972864 == some .gt) = true) (w : World) :
    Calls Try.prog 11 #[.float .f64 b] w fun e w' => e = .returned (.tuple #[.int .i64 0, .int .i64 50]) ∧ Below w.heap.size w w' := by
  have HH := bRef w
  go_enter Try.func11, Try.ntmps11
  go_wp2_with (first
    | (go_at_call 34; (with_reducible refine (HN.go _).mono ?_); rintro e wx ⟨rfl, rfl⟩)
    | (go_at_call 35; (with_reducible refine (HE.go _).mono ?_); rintro e wx ⟨rfl, rfl⟩))
  go_ret2
  exact ⟨rfl, HH⟩

theorem of_lt (b : Nat) (HN : RetQ 34 #[.float .f64 b] (.bool false)) (HE : RetQ 35 #[.float .f64 b] (.bool false)) (hg : (FloatKind.f64.format.order b 4662219572839972864 == some .gt) = false) (hl : (FloatKind.f64.format.order b 13885591609694748672 == some .lt) = true) (w : World) :
    Calls Try.prog 11 #[.float .f64 b] w fun e w' => e = .returned (.tuple #[.int .i64 0, .int .i64 50]) ∧ Below w.heap.size w w' := by
  have HH := bRef w
  go_enter Try.func11, Try.ntmps11
  go_wp2_with (first
    | (go_at_call 34; (with_reducible refine (HN.go _).mono ?_); rintro e wx ⟨rfl, rfl⟩)
    | (go_at_call 35; (with_reducible refine (HE.go _).mono ?_); rintro e wx ⟨rfl, rfl⟩))
  go_ret2
  exact ⟨rfl, HH⟩

theorem of_in (b : Nat) (v r : Int) (HN : RetQ 34 #[.float .f64 b] (.bool false)) (HE : RetQ 35 #[.float .f64 b] (.bool false)) (hg : (FloatKind.f64.format.order b 4662219572839972864 == some .gt) = false) (hl : (FloatKind.f64.format.order b 13885591609694748672 == some .lt) = false) (HP : Ret 36 #[.float .f64 b] (.int .i64 v)) (hv : wrap64 (2199023255552 + v) = r) (w : World) :
    Calls Try.prog 11 #[.float .f64 b] w fun e w' => e = .returned (.tuple #[.int .i64 r, .int .i64 0]) ∧ Below w.heap.size w w' := by
  have HH := bRef w
  go_enter Try.func11, Try.ntmps11
  go_wp2_with (first
    | (go_at_call 34; (with_reducible refine (HN.go _).mono ?_); rintro e wx ⟨rfl, rfl⟩)
    | (go_at_call 35; (with_reducible refine (HE.go _).mono ?_); rintro e wx ⟨rfl, rfl⟩)
    | (go_at_call 36; (with_reducible refine (HP.go _).mono ?_); rintro e wx ⟨rfl, hb⟩; (first | replace HH := bTr HH hb | replace HH := bTr (bDr HH _) hb); clear hb))
  go_ret2
  exact ⟨by rw [← hv]; rfl, HH⟩

theorem isNo_ret {b : Nat} (h : b < 18446744073709551616) : RetQ 34 #[.float .f64 b] (.bool (decide (9218868437227405312 < rung b))) :=
  fun w => isNo_walk b (rung b) _ (andNot_sign h) (decide_eq_decide.2 (by omega)) w
theorem isEnd_ret {b : Nat} (h : b < 18446744073709551616) : RetQ 35 #[.float .f64 b] (.bool (decide (rung b = 9218868437227405312))) :=
  fun w => isEnd_walk b (rung b) _ (andNot_sign h) (by
    by_cases hh : rung b = 9218868437227405312
    · rw [decide_eq_true hh, beq_iff_eq]; omega
    · rw [decide_eq_false hh, beq_eq_false_iff_ne]; omega) w

theorem soff_le {b : Nat} (h : rung b ≤ 4662219572839972864) : -10995116278 ≤ soff b ∧ soff b ≤ 10995116278 := by
  have := off_le h
  unfold soff
  split <;> omega

theorem of_ret {b : Nat} (h : b < 18446744073709551616) : Ret 11 #[.float .f64 b] (.tuple #[.int .i64 (ofV b), .int .i64 (ofE b)]) := fun w => by
  have HN := isNo_ret h
  have HE := isEnd_ret h
  by_cases h1 : 9218868437227405312 < rung b
  · rw [decide_eq_true h1] at HN
    rw [show ofV b = 0 from if_pos (by omega), show ofE b = 12 from if_pos h1]
    exact of_nan b HN w
  rw [decide_eq_false h1] at HN
  by_cases h2 : rung b = 9218868437227405312
  · rw [decide_eq_true h2] at HE
    rw [show ofV b = 0 from if_pos (by omega), show ofE b = 13 from (if_neg h1).trans (if_pos h2)]
    exact of_inf b HN HE w
  rw [decide_eq_false h2] at HE
  have hf : Fin64 b := ⟨h, by omega⟩
  have hf5 : Fin64 4662219572839972864 := ⟨by omega, by decide⟩
  have hf6 : Fin64 13885591609694748672 := ⟨by omega, by decide⟩
  have s5 : srung 4662219572839972864 = 4662219572839972864 := by decide
  have s6 : srung 13885591609694748672 = -4662219572839972864 := by decide
  have hg := order_gt hf hf5
  have hl := order_lt hf hf6
  rw [s5] at hg
  rw [s6] at hl
  change (FloatKind.f64.format.order b 4662219572839972864 == some .gt) = _ at hg
  change (FloatKind.f64.format.order b 13885591609694748672 == some .lt) = _ at hl
  by_cases h3 : 4662219572839972864 < rung b
  · rw [show ofV b = 0 from if_pos h3, show ofE b = 50 from (if_neg h1).trans ((if_neg h2).trans (if_pos h3))]
    by_cases h4 : 9223372036854775808 ≤ b
    · have e : srung b = -((rung b : Nat) : Int) := if_pos h4
      rw [decide_eq_false (by omega)] at hg
      rw [decide_eq_true (by omega)] at hl
      exact of_lt b HN HE hg hl w
    · have e : srung b = ((rung b : Nat) : Int) := if_neg h4
      rw [decide_eq_true (by omega)] at hg
      exact of_gt b HN HE hg w
  · rw [show ofV b = 2199023255552 + soff b from if_neg h3, show ofE b = 0 from (if_neg h1).trans ((if_neg h2).trans (if_neg h3))]
    have e : -((rung b : Nat) : Int) ≤ srung b ∧ srung b ≤ ((rung b : Nat) : Int) := by unfold srung; split <;> omega
    rw [decide_eq_false (by omega)] at hg
    rw [decide_eq_false (by omega)] at hl
    have hb := soff_le (b := b) (by omega)
    exact of_in b _ _ HN HE hg hl (parts_ret h (by omega)) (IntWalk.wrap64_in _ ⟨by omega, by omega⟩) w

theorem off_one : off 4607182418800017408 = 2199023 := by
  rw [off_parts (by decide) (by decide)]
  decide
theorem of_one : ofV 4607182418800017408 = 2199025454575 ∧ ofE 4607182418800017408 = 0 := by
  have e : rung 4607182418800017408 = 4607182418800017408 := by decide
  constructor
  · unfold ofV soff
    rw [e, off_one]; decide
  · unfold ofE
    rw [e]; decide
theorem made_ret : Ret 10 #[] (.bool true) := fun w => by
  have H := of_ret (b := 4607182418800017408) (by omega)
  rw [of_one.1, of_one.2] at H
  have HH := bRef w
  go_enter Try.func10, Try.ntmps10
  go_wp2_with (first
    | (go_at_call 11; (with_reducible refine (H.go _).mono ?_); rintro e wx ⟨rfl, hb⟩; (first | replace HH := bTr HH hb | replace HH := bTr (bDr HH _) hb); clear hb))
  go_ret
  exact ⟨rfl, HH⟩

end Go.Proofs.Ytfohfpeeghnocab
