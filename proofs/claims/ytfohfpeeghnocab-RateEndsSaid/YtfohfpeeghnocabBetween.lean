/- Package rate: Between, and the reference's. -/
import Derived.Test.YtfohfpeeghnocabRate
import Derived.Test.YtfohfpeeghnocabSt
namespace Go.Proofs.Ytfohfpeeghnocab
open Go.RowKit

def btE (a b : Int) : Int :=
  if a < 0 ∨ b < 0 then 1 else if rE a 2199023255552 b ≠ 0 then rE a 2199023255552 b else if Right (rV a 2199023255552 b) then 0 else 50
def btV (a b : Int) : Int :=
  if a < 0 ∨ b < 0 then 0 else if rE a 2199023255552 b ≠ 0 then 0 else if Right (rV a 2199023255552 b) then rV a 2199023255552 b else 0

theorem bt_n1 (a b : Int) (h1 : decide (a < 0) = true)
     (w : World) :
    Calls Try.prog 27 #[.int .i64 a, .int .i64 b] w fun e w' => e = .returned (.tuple #[.int .i64 0, .int .i64 1]) ∧ Below w.heap.size w w' := by
  have HH := bRef w
  skip
  go_enter Try.func27, Try.ntmps27
  go_wp2_with (first
    | done)
  go_ret2
  exact ⟨rfl, HH⟩

theorem bt_n2 (a b : Int) (h1 : decide (a < 0) = false) (h2 : decide (b < 0) = true)
     (w : World) :
    Calls Try.prog 27 #[.int .i64 a, .int .i64 b] w fun e w' => e = .returned (.tuple #[.int .i64 0, .int .i64 1]) ∧ Below w.heap.size w w' := by
  have HH := bRef w
  skip
  go_enter Try.func27, Try.ntmps27
  go_wp2_with (first
    | done)
  go_ret2
  exact ⟨rfl, HH⟩

theorem bt_err (a b v x : Int) (h1 : decide (a < 0) = false) (h2 : decide (b < 0) = false) (_ : (x == 0) = false) (hx2 : (x != 0) = true)
    (H1 : Ret 41 #[.int .i64 a, .int .i64 2199023255552, .int .i64 b] (.tuple #[.int .i64 v, .int .i64 x])) (w : World) :
    Calls Try.prog 27 #[.int .i64 a, .int .i64 b] w fun e w' => e = .returned (.tuple #[.int .i64 0, .int .i64 x]) ∧ Below w.heap.size w w' := by
  have HH := bRef w
  skip
  go_enter Try.func27, Try.ntmps27
  go_wp2_with (first
    | (go_at_call 41; (with_reducible refine (H1.go _).mono ?_); rintro e wx ⟨rfl, hb⟩; (first | replace HH := bTr HH hb | replace HH := bTr (bDr HH _) hb); clear hb)
    | (go_at_call 14; (with_reducible refine (H2.go _).mono ?_); rintro e wx ⟨rfl, hb⟩; (first | replace HH := bTr HH hb | replace HH := bTr (bDr HH _) hb); clear hb))
  go_ret2
  exact ⟨rfl, HH⟩

theorem bt_out (a b v : Int) (h1 : decide (a < 0) = false) (h2 : decide (b < 0) = false)
    (H1 : Ret 41 #[.int .i64 a, .int .i64 2199023255552, .int .i64 b] (.tuple #[.int .i64 v, .int .i64 0])) (H2 : Ret 14 #[.int .i64 v] (.int .i64 50)) (w : World) :
    Calls Try.prog 27 #[.int .i64 a, .int .i64 b] w fun e w' => e = .returned (.tuple #[.int .i64 0, .int .i64 50]) ∧ Below w.heap.size w w' := by
  have HH := bRef w
  skip
  go_enter Try.func27, Try.ntmps27
  go_wp2_with (first
    | (go_at_call 41; (with_reducible refine (H1.go _).mono ?_); rintro e wx ⟨rfl, hb⟩; (first | replace HH := bTr HH hb | replace HH := bTr (bDr HH _) hb); clear hb)
    | (go_at_call 14; (with_reducible refine (H2.go _).mono ?_); rintro e wx ⟨rfl, hb⟩; (first | replace HH := bTr HH hb | replace HH := bTr (bDr HH _) hb); clear hb))
  go_ret2
  exact ⟨rfl, HH⟩

theorem bt_in (a b v : Int) (h1 : decide (a < 0) = false) (h2 : decide (b < 0) = false)
    (H1 : Ret 41 #[.int .i64 a, .int .i64 2199023255552, .int .i64 b] (.tuple #[.int .i64 v, .int .i64 0])) (H2 : Ret 14 #[.int .i64 v] (.int .i64 0)) (w : World) :
    Calls Try.prog 27 #[.int .i64 a, .int .i64 b] w fun e w' => e = .returned (.tuple #[.int .i64 v, .int .i64 0]) ∧ Below w.heap.size w w' := by
  have HH := bRef w
  skip
  go_enter Try.func27, Try.ntmps27
  go_wp2_with (first
    | (go_at_call 41; (with_reducible refine (H1.go _).mono ?_); rintro e wx ⟨rfl, hb⟩; (first | replace HH := bTr HH hb | replace HH := bTr (bDr HH _) hb); clear hb)
    | (go_at_call 14; (with_reducible refine (H2.go _).mono ?_); rintro e wx ⟨rfl, hb⟩; (first | replace HH := bTr HH hb | replace HH := bTr (bDr HH _) hb); clear hb))
  go_ret2
  exact ⟨rfl, HH⟩

theorem rbt_n1 (a b : Int) (h1 : decide (a < 0) = true)
     (w : World) :
    Calls Try.prog 28 #[.int .i64 a, .int .i64 b] w fun e w' => e = .returned (.tuple #[.int .i64 0, .int .i64 1]) ∧ Below w.heap.size w w' := by
  have HH := bRef w
  skip
  go_enter Try.func28, Try.ntmps28
  go_wp2_with (first
    | done)
  go_ret2
  exact ⟨rfl, HH⟩

theorem rbt_n2 (a b : Int) (h1 : decide (a < 0) = false) (h2 : decide (b < 0) = true)
     (w : World) :
    Calls Try.prog 28 #[.int .i64 a, .int .i64 b] w fun e w' => e = .returned (.tuple #[.int .i64 0, .int .i64 1]) ∧ Below w.heap.size w w' := by
  have HH := bRef w
  skip
  go_enter Try.func28, Try.ntmps28
  go_wp2_with (first
    | done)
  go_ret2
  exact ⟨rfl, HH⟩

theorem rbt_err (a b v x : Int) (h1 : decide (a < 0) = false) (h2 : decide (b < 0) = false) (_ : (x == 0) = false) (hx2 : (x != 0) = true)
    (H1 : Ret 25 #[.int .i64 a, .int .i64 2199023255552, .int .i64 b, .int .i64 2] (.tuple #[.int .i64 v, .int .i64 x])) (w : World) :
    Calls Try.prog 28 #[.int .i64 a, .int .i64 b] w fun e w' => e = .returned (.tuple #[.int .i64 0, .int .i64 x]) ∧ Below w.heap.size w w' := by
  have HH := bRef w
  skip
  go_enter Try.func28, Try.ntmps28
  go_wp2_with (first
    | (go_at_call 25; (with_reducible refine (H1.go _).mono ?_); rintro e wx ⟨rfl, hb⟩; (first | replace HH := bTr HH hb | replace HH := bTr (bDr HH _) hb); clear hb)
    | (go_at_call 15; (with_reducible refine (H2.go _).mono ?_); rintro e wx ⟨rfl, hb⟩; (first | replace HH := bTr HH hb | replace HH := bTr (bDr HH _) hb); clear hb))
  go_ret2
  exact ⟨rfl, HH⟩

theorem rbt_out (a b v : Int) (h1 : decide (a < 0) = false) (h2 : decide (b < 0) = false)
    (H1 : Ret 25 #[.int .i64 a, .int .i64 2199023255552, .int .i64 b, .int .i64 2] (.tuple #[.int .i64 v, .int .i64 0])) (H2 : Ret 15 #[.int .i64 v] (.bool false)) (w : World) :
    Calls Try.prog 28 #[.int .i64 a, .int .i64 b] w fun e w' => e = .returned (.tuple #[.int .i64 0, .int .i64 50]) ∧ Below w.heap.size w w' := by
  have HH := bRef w
  skip
  go_enter Try.func28, Try.ntmps28
  go_wp2_with (first
    | (go_at_call 25; (with_reducible refine (H1.go _).mono ?_); rintro e wx ⟨rfl, hb⟩; (first | replace HH := bTr HH hb | replace HH := bTr (bDr HH _) hb); clear hb)
    | (go_at_call 15; (with_reducible refine (H2.go _).mono ?_); rintro e wx ⟨rfl, hb⟩; (first | replace HH := bTr HH hb | replace HH := bTr (bDr HH _) hb); clear hb))
  go_ret2
  exact ⟨rfl, HH⟩

theorem rbt_in (a b v : Int) (h1 : decide (a < 0) = false) (h2 : decide (b < 0) = false)
    (H1 : Ret 25 #[.int .i64 a, .int .i64 2199023255552, .int .i64 b, .int .i64 2] (.tuple #[.int .i64 v, .int .i64 0])) (H2 : Ret 15 #[.int .i64 v] (.bool true)) (w : World) :
    Calls Try.prog 28 #[.int .i64 a, .int .i64 b] w fun e w' => e = .returned (.tuple #[.int .i64 v, .int .i64 0]) ∧ Below w.heap.size w w' := by
  have HH := bRef w
  skip
  go_enter Try.func28, Try.ntmps28
  go_wp2_with (first
    | (go_at_call 25; (with_reducible refine (H1.go _).mono ?_); rintro e wx ⟨rfl, hb⟩; (first | replace HH := bTr HH hb | replace HH := bTr (bDr HH _) hb); clear hb)
    | (go_at_call 15; (with_reducible refine (H2.go _).mono ?_); rintro e wx ⟨rfl, hb⟩; (first | replace HH := bTr HH hb | replace HH := bTr (bDr HH _) hb); clear hb))
  go_ret2
  exact ⟨rfl, HH⟩

theorem bt_ret {a b : Int} (ha : In64 a) (hb : In64 b) : Ret 27 #[.int .i64 a, .int .i64 b] (.tuple #[.int .i64 (btV a b), .int .i64 (btE a b)]) := fun w => by
  by_cases h1 : a < 0
  · rw [show btV a b = 0 from if_pos (.inl h1), show btE a b = 1 from if_pos (.inl h1)]
    exact bt_n1 a b (decide_eq_true h1) w
  by_cases h2 : b < 0
  · rw [show btV a b = 0 from if_pos (.inr h2), show btE a b = 1 from if_pos (.inr h2)]
    exact bt_n2 a b (decide_eq_false h1) (decide_eq_true h2) w
  have hk : In64 2199023255552 := ⟨by omega, by omega⟩
  have H1 := rMd_ret ha hk hb
  change Ret _ _ (.tuple #[.int .i64 (rV a 2199023255552 b), .int .i64 (rE a 2199023255552 b)]) at H1
  have H2 := rCheck_ret (rV a 2199023255552 b)
  have eV : btV a b = if rE a 2199023255552 b ≠ 0 then 0 else if Right (rV a 2199023255552 b) then rV a 2199023255552 b else 0 := if_neg (by omega)
  have eE : btE a b = if rE a 2199023255552 b ≠ 0 then rE a 2199023255552 b else if Right (rV a 2199023255552 b) then 0 else 50 := if_neg (by omega)
  rw [eV, eE]
  clear eV eE
  generalize rV a 2199023255552 b = v at *
  generalize rE a 2199023255552 b = x at *
  by_cases h3 : x = 0
  · subst h3
    by_cases h4 : Right v
    · have := bt_in a b v (decide_eq_false h1) (decide_eq_false h2) H1 (by simpa [h4] using H2) w
      simpa [h4] using this
    · have := bt_out a b v (decide_eq_false h1) (decide_eq_false h2) H1 (by simpa [h4] using H2) w
      simpa [h4] using this
  · have := bt_err a b v x (decide_eq_false h1) (decide_eq_false h2) (by rw [beq_eq_false_iff_ne]; exact h3) (by rw [bne_iff_ne]; exact h3) H1 w
    simpa [h3] using this

theorem rbt_ret {a b : Int} (ha : In64 a) (hb : In64 b) : Ret 28 #[.int .i64 a, .int .i64 b] (.tuple #[.int .i64 (btV a b), .int .i64 (btE a b)]) := fun w => by
  by_cases h1 : a < 0
  · rw [show btV a b = 0 from if_pos (.inl h1), show btE a b = 1 from if_pos (.inl h1)]
    exact rbt_n1 a b (decide_eq_true h1) w
  by_cases h2 : b < 0
  · rw [show btV a b = 0 from if_pos (.inr h2), show btE a b = 1 from if_pos (.inr h2)]
    exact rbt_n2 a b (decide_eq_false h1) (decide_eq_true h2) w
  have hk : In64 2199023255552 := ⟨by omega, by omega⟩
  have H1 := refmd_ret 2 ha hk hb
  change Ret _ _ (.tuple #[.int .i64 (rV a 2199023255552 b), .int .i64 (rE a 2199023255552 b)]) at H1
  have H2 := refRight_ret (rV a 2199023255552 b)
  have eV : btV a b = if rE a 2199023255552 b ≠ 0 then 0 else if Right (rV a 2199023255552 b) then rV a 2199023255552 b else 0 := if_neg (by omega)
  have eE : btE a b = if rE a 2199023255552 b ≠ 0 then rE a 2199023255552 b else if Right (rV a 2199023255552 b) then 0 else 50 := if_neg (by omega)
  rw [eV, eE]
  clear eV eE
  generalize rV a 2199023255552 b = v at *
  generalize rE a 2199023255552 b = x at *
  by_cases h3 : x = 0
  · subst h3
    by_cases h4 : Right v
    · have := rbt_in a b v (decide_eq_false h1) (decide_eq_false h2) H1 (by simpa [h4] using H2) w
      simpa [h4] using this
    · have := rbt_out a b v (decide_eq_false h1) (decide_eq_false h2) H1 (by simpa [h4] using H2) w
      simpa [h4] using this
  · have := rbt_err a b v x (decide_eq_false h1) (decide_eq_false h2) (by rw [beq_eq_false_iff_ne]; exact h3) (by rw [bne_iff_ne]; exact h3) H1 w
    simpa [h3] using this

end Go.Proofs.Ytfohfpeeghnocab
