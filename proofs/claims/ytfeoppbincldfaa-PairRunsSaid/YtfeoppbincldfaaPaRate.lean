/- Package rate: its product by wide's. -/
import Derived.Test.YtfeoppbincldfaaPeOwn
namespace Go.Proofs.Ytfeoppbincldfaa
open Go.RowKit

def rV (a b c : Int) : Int := mdV a b c 2
def rE (a b c : Int) : Int := mdE a b c 2

theorem rMd_ret {a b c : Int} (ha : In64 a) (hb : In64 b) (hc : In64 c) :
    Ret 71 #[.int .i64 a, .int .i64 b, .int .i64 c] (.tuple #[.int .i64 (rV a b c), .int .i64 (rE a b c)]) := fun w => by
  have H := mulDiv_ret (a := a) (b := b) (c := c) 2 ha hb hc
  change Ret _ _ (.tuple #[.int .i64 (rV a b c), .int .i64 (rE a b c)]) at H
  generalize rV a b c = v at *
  generalize rE a b c = x at *
  go_enter Try.func71, Try.ntmps71
  go_wp2_with (first
    | (go_at_call 89; (with_reducible refine (H.go _).mono ?_); rintro e wx ⟨rfl, hb⟩))
  go_ret2
  exact ⟨rfl, hb⟩

theorem rMul_ret {a b : Int} (ha : In64 a) (hb : In64 b) :
    Ret 52 #[.int .i64 a, .int .i64 b] (.tuple #[.int .i64 (rV a b 2199023255552), .int .i64 (rE a b 2199023255552)]) := fun w => by
  have H := rMd_ret (a := a) (b := b) (c := 2199023255552) ha hb ⟨by omega, by omega⟩
  generalize rV a b 2199023255552 = v at *
  generalize rE a b 2199023255552 = x at *
  go_enter Try.func52, Try.ntmps52
  go_wp2_with (first
    | (go_at_call 71; (with_reducible refine (H.go _).mono ?_); rintro e wx ⟨rfl, hb⟩))
  go_ret2
  exact ⟨rfl, hb⟩


def Right (r : Int) : Prop := 2181843386368 ≤ r ∧ r ≤ 2216203124736
instance (r : Int) : Decidable (Right r) := inferInstanceAs (Decidable (_ ∧ _))

theorem rCheck_ret (r : Int) : Ret 53 #[.int .i64 r] (.int .i64 (if Right r then 0 else 50)) := fun w => by
  by_cases h1 : 2181843386368 ≤ r
  · have e1 : decide (r < 2181843386368) = false := by simp; omega
    by_cases h2 : r ≤ 2216203124736
    · have e2 : decide (2216203124736 < r) = false := by simp; omega
      rw [if_pos (show Right r from ⟨h1, h2⟩)]
      go_enter Try.func53, Try.ntmps53
      go_wp2_with (first | done)
      go_ret
      exact ⟨rfl, bRef _⟩
    · have e2 : decide (2216203124736 < r) = true := by simp; omega
      rw [if_neg (show ¬ Right r from fun h => h2 h.2)]
      go_enter Try.func53, Try.ntmps53
      go_wp2_with (first | done)
      go_ret
      exact ⟨rfl, bRef _⟩
  · have e1 : decide (r < 2181843386368) = true := by simp; omega
    rw [if_neg (show ¬ Right r from fun h => h1 h.1)]
    go_enter Try.func53, Try.ntmps53
    go_wp2_with (first | done)
    go_ret
    exact ⟨rfl, bRef _⟩

end Go.Proofs.Ytfeoppbincldfaa
