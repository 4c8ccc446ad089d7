/- Package rate: its product by wide's. -/
import Derived.Test.YtnfoimkiihfalaaPeOwn
namespace Go.Proofs.Ytnfoimkiihfalaa
open Go.RowKit

def rV (a b c : Int) : Int := mdV a b c 2
def rE (a b c : Int) : Int := mdE a b c 2

theorem rMd_ret {a b c : Int} (ha : In64 a) (hb : In64 b) (hc : In64 c) :
    Ret 50 #[.int .i64 a, .int .i64 b, .int .i64 c] (.tuple #[.int .i64 (rV a b c), .int .i64 (rE a b c)]) := fun w => by
  have H := mulDiv_ret (a := a) (b := b) (c := c) 2 ha hb hc
  change Ret _ _ (.tuple #[.int .i64 (rV a b c), .int .i64 (rE a b c)]) at H
  generalize rV a b c = v at *
  generalize rE a b c = x at *
  go_enter Try.func50, Try.ntmps50
  go_wp2_with (first
    | (go_at_call 56; (with_reducible refine (H.go _).mono ?_); rintro e wx ⟨rfl, hb⟩))
  go_ret2
  exact ⟨rfl, hb⟩

theorem rMul_ret {a b : Int} (ha : In64 a) (hb : In64 b) :
    Ret 47 #[.int .i64 a, .int .i64 b] (.tuple #[.int .i64 (rV a b 2199023255552), .int .i64 (rE a b 2199023255552)]) := fun w => by
  have H := rMd_ret (a := a) (b := b) (c := 2199023255552) ha hb ⟨by omega, by omega⟩
  generalize rV a b 2199023255552 = v at *
  generalize rE a b 2199023255552 = x at *
  go_enter Try.func47, Try.ntmps47
  go_wp2_with (first
    | (go_at_call 50; (with_reducible refine (H.go _).mono ?_); rintro e wx ⟨rfl, hb⟩))
  go_ret2
  exact ⟨rfl, hb⟩

theorem rInv_ret {a : Int} (ha : In64 a) :
    Ret 67 #[.int .i64 a] (.tuple #[.int .i64 (rV 2199023255552 2199023255552 a), .int .i64 (rE 2199023255552 2199023255552 a)]) := fun w => by
  have H := rMd_ret (a := 2199023255552) (b := 2199023255552) (c := a) ⟨by omega, by omega⟩ ⟨by omega, by omega⟩ ha
  generalize rV 2199023255552 2199023255552 a = v at *
  generalize rE 2199023255552 2199023255552 a = x at *
  go_enter Try.func67, Try.ntmps67
  go_wp2_with (first
    | (go_at_call 50; (with_reducible refine (H.go _).mono ?_); rintro e wx ⟨rfl, hb⟩))
  go_ret2
  exact ⟨rfl, hb⟩

def Right (r : Int) : Prop := 2181843386368 ≤ r ∧ r ≤ 2216203124736
instance (r : Int) : Decidable (Right r) := inferInstanceAs (Decidable (_ ∧ _))

theorem rCheck_ret (r : Int) : Ret 51 #[.int .i64 r] (.int .i64 (if Right r then 0 else 50)) := fun w => by
  by_cases h1 : 2181843386368 ≤ r
  · have e1 : decide (r < 2181843386368) = false := by simp; omega
    by_cases h2 : r ≤ 2216203124736
    · have e2 : decide (2216203124736 < r) = false := by simp; omega
      rw [if_pos (show Right r from ⟨h1, h2⟩)]
      go_enter Try.func51, Try.ntmps51
      go_wp2_with (first | done)
      go_ret
      exact ⟨rfl, bRef _⟩
    · have e2 : decide (2216203124736 < r) = true := by simp; omega
      rw [if_neg (show ¬ Right r from fun h => h2 h.2)]
      go_enter Try.func51, Try.ntmps51
      go_wp2_with (first | done)
      go_ret
      exact ⟨rfl, bRef _⟩
  · have e1 : decide (r < 2181843386368) = true := by simp; omega
    rw [if_neg (show ¬ Right r from fun h => h1 h.1)]
    go_enter Try.func51, Try.ntmps51
    go_wp2_with (first | done)
    go_ret
    exact ⟨rfl, bRef _⟩

def btE (a b : Int) : Int :=
  if a < 0 ∨ b < 0 then 1 else if rE a 2199023255552 b ≠ 0 then rE a 2199023255552 b else if Right (rV a 2199023255552 b) then 0 else 50
def btV (a b : Int) : Int :=
  if a < 0 ∨ b < 0 then 0 else if rE a 2199023255552 b ≠ 0 then 0 else if Right (rV a 2199023255552 b) then rV a 2199023255552 b else 0

theorem bt_n1 (a b : Int) (h1 : decide (a < 0) = true)
     (w : World) :
    Calls Try.prog 36 #[.int .i64 a, .int .i64 b] w fun e w' => e = .returned (.tuple #[.int .i64 0, .int .i64 1]) ∧ Below w.heap.size w w' := by
  have HH := bRef w
  skip
  go_enter Try.func36, Try.ntmps36
  go_wp2_with (first
    | done)
  go_ret2
  exact ⟨rfl, HH⟩

theorem bt_n2 (a b : Int) (h1 : decide (a < 0) = false) (h2 : decide (b < 0) = true)
     (w : World) :
    Calls Try.prog 36 #[.int .i64 a, .int .i64 b] w fun e w' => e = .returned (.tuple #[.int .i64 0, .int .i64 1]) ∧ Below w.heap.size w w' := by
  have HH := bRef w
  skip
  go_enter Try.func36, Try.ntmps36
  go_wp2_with (first
    | done)
  go_ret2
  exact ⟨rfl, HH⟩

theorem bt_err (a b v x : Int) (h1 : decide (a < 0) = false) (h2 : decide (b < 0) = false) (_ : (x == 0) = false) (hx2 : (x != 0) = true)
    (H1 : Ret 50 #[.int .i64 a, .int .i64 2199023255552, .int .i64 b] (.tuple #[.int .i64 v, .int .i64 x])) (w : World) :
    Calls Try.prog 36 #[.int .i64 a, .int .i64 b] w fun e w' => e = .returned (.tuple #[.int .i64 0, .int .i64 x]) ∧ Below w.heap.size w w' := by
  have HH := bRef w
  skip
  go_enter Try.func36, Try.ntmps36
  go_wp2_with (first
    | (go_at_call 50; (with_reducible refine (H1.go _).mono ?_); rintro e wx ⟨rfl, hb⟩; (first | replace HH := bTr HH hb | replace HH := bTr (bDr HH _) hb); clear hb)
    | (go_at_call 51; (with_reducible refine (H2.go _).mono ?_); rintro e wx ⟨rfl, hb⟩; (first | replace HH := bTr HH hb | replace HH := bTr (bDr HH _) hb); clear hb))
  go_ret2
  exact ⟨rfl, HH⟩

theorem bt_out (a b v : Int) (h1 : decide (a < 0) = false) (h2 : decide (b < 0) = false)
    (H1 : Ret 50 #[.int .i64 a, .int .i64 2199023255552, .int .i64 b] (.tuple #[.int .i64 v, .int .i64 0])) (H2 : Ret 51 #[.int .i64 v] (.int .i64 50)) (w : World) :
    Calls Try.prog 36 #[.int .i64 a, .int .i64 b] w fun e w' => e = .returned (.tuple #[.int .i64 0, .int .i64 50]) ∧ Below w.heap.size w w' := by
  have HH := bRef w
  skip
  go_enter Try.func36, Try.ntmps36
  go_wp2_with (first
    | (go_at_call 50; (with_reducible refine (H1.go _).mono ?_); rintro e wx ⟨rfl, hb⟩; (first | replace HH := bTr HH hb | replace HH := bTr (bDr HH _) hb); clear hb)
    | (go_at_call 51; (with_reducible refine (H2.go _).mono ?_); rintro e wx ⟨rfl, hb⟩; (first | replace HH := bTr HH hb | replace HH := bTr (bDr HH _) hb); clear hb))
  go_ret2
  exact ⟨rfl, HH⟩

theorem bt_in (a b v : Int) (h1 : decide (a < 0) = false) (h2 : decide (b < 0) = false)
    (H1 : Ret 50 #[.int .i64 a, .int .i64 2199023255552, .int .i64 b] (.tuple #[.int .i64 v, .int .i64 0])) (H2 : Ret 51 #[.int .i64 v] (.int .i64 0)) (w : World) :
    Calls Try.prog 36 #[.int .i64 a, .int .i64 b] w fun e w' => e = .returned (.tuple #[.int .i64 v, .int .i64 0]) ∧ Below w.heap.size w w' := by
  have HH := bRef w
  skip
  go_enter Try.func36, Try.ntmps36
  go_wp2_with (first
    | (go_at_call 50; (with_reducible refine (H1.go _).mono ?_); rintro e wx ⟨rfl, hb⟩; (first | replace HH := bTr HH hb | replace HH := bTr (bDr HH _) hb); clear hb)
    | (go_at_call 51; (with_reducible refine (H2.go _).mono ?_); rintro e wx ⟨rfl, hb⟩; (first | replace HH := bTr HH hb | replace HH := bTr (bDr HH _) hb); clear hb))
  go_ret2
  exact ⟨rfl, HH⟩

theorem bt_ret {a b : Int} (ha : In64 a) (hb : In64 b) : Ret 36 #[.int .i64 a, .int .i64 b] (.tuple #[.int .i64 (btV a b), .int .i64 (btE a b)]) := fun w => by
  by_cases h1 : a < 0
  · rw [show btV a b = 0 from if_pos (.inl h1), show btE a b = 1 from if_pos (.inl h1)]
    exact bt_n1 a b (decide_eq_true h1) w
  by_cases h2 : b < 0
  · rw [show btV a b = 0 from if_pos (.inr h2), show btE a b = 1 from if_pos (.inr h2)]
    exact bt_n2 a b (decide_eq_false h1) (decide_eq_true h2) w
  have hk : In64 2199023255552 := ⟨by omega, by omega⟩
  have H1 := rMd_ret ha hk hb
  change Ret _ _ (.tuple #[.int .i64 (rV a 2199023255552 b), .int .i64 (rE a 2199023255552 b)]) at H1
  have H2 := rCheck_ret (rV a 2199023255552 b)
  have eV : btV a b = if rE a 2199023255552 b ≠ 0 then 0 else if Right (rV a 2199023255552 b) then rV a 2199023255552 b else 0 := if_neg (by omega)
  have eE : btE a b = if rE a 2199023255552 b ≠ 0 then rE a 2199023255552 b else if Right (rV a 2199023255552 b) then 0 else 50 := if_neg (by omega)
  rw [eV, eE]
  clear eV eE
  generalize rV a 2199023255552 b = v at *
  generalize rE a 2199023255552 b = x at *
  by_cases h3 : x = 0
  · subst h3
    by_cases h4 : Right v
    · have := bt_in a b v (decide_eq_false h1) (decide_eq_false h2) H1 (by simpa [h4] using H2) w
      simpa [h4] using this
    · have := bt_out a b v (decide_eq_false h1) (decide_eq_false h2) H1 (by simpa [h4] using H2) w
      simpa [h4] using this
  · have := bt_err a b v x (decide_eq_false h1) (decide_eq_false h2) (by rw [beq_eq_false_iff_ne]; exact h3) (by rw [bne_iff_ne]; exact h3) H1 w
    simpa [h3] using this

end Go.Proofs.Ytnfoimkiihfalaa
