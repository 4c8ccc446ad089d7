/- WideRounds: a times b by c, rounded in each way, and held at the ends. -/
import Derived.Test.YtfohfpeeghnocaaNear
import Derived.Test.YtfohfpeeghnocaaRefMd
namespace Go.Proofs.Ytfohfpeeghnocaa
open Go.RowKit

def heldV (a b c round : Int) : Int := if mdE a b c round = 10 then (if neg a b c = true then -9223372036854775808 else 9223372036854775807) else mdV a b c round

theorem held_core (a b c round x e : Int) (he : (e != 10) = true) (HM : Ret 27 #[.int .i64 a, .int .i64 b, .int .i64 c, .int .i64 round] (.tuple #[.int .i64 x, .int .i64 e])) (w : World) :
    Calls Try.prog 29 #[.int .i64 a, .int .i64 b, .int .i64 c, .int .i64 round] w fun e w' => e = .returned (.int .i64 x) ∧ Below w.heap.size w w' := by
  have HH := bRef w
  go_enter Try.func29, Try.ntmps29
  go_wp2_with (go_at_call 27; (with_reducible refine (HM.go _).mono ?_); rintro e wx ⟨rfl, hb⟩; replace HH := bTr HH hb; clear hb)
  go_ret
  exact ⟨rfl, HH⟩
theorem held_over (a b c round x : Int) (HM : Ret 27 #[.int .i64 a, .int .i64 b, .int .i64 c, .int .i64 round] (.tuple #[.int .i64 x, .int .i64 10])) (w : World) :
    Calls Try.prog 29 #[.int .i64 a, .int .i64 b, .int .i64 c, .int .i64 round] w fun e w' => e = .returned (.int .i64 (if neg a b c = true then -9223372036854775808 else 9223372036854775807)) ∧ Below w.heap.size w w' := by
  have HB : Ret 36 #[.int .i64 a, .int .i64 b, .int .i64 c] (.bool (neg a b c)) := RetQ.ret (fun w => wIsBelow a b c w)
  cases hn : neg a b c
  all_goals
    rw [hn] at HB
    have HH := bRef w
    go_enter Try.func29, Try.ntmps29
    go_wp2_with (first
      | (go_at_call 27; (with_reducible refine (HM.go _).mono ?_); rintro e wx ⟨rfl, hb⟩; replace HH := bTr HH hb; clear hb)
      | (go_at_call 36; (with_reducible refine (HB.go _).mono ?_); rintro e wx ⟨rfl, hb⟩; replace HH := bTr HH hb; clear hb))
    go_ret
    exact ⟨rfl, HH⟩
theorem held_ret {a b c : Int} (round : Int) (ha : In64 a) (hb : In64 b) (hc : In64 c) : Ret 29 #[.int .i64 a, .int .i64 b, .int .i64 c, .int .i64 round] (.int .i64 (heldV a b c round)) := fun w => by
  have HM := mulDiv_ret round ha hb hc
  unfold heldV
  by_cases h : mdE a b c round = 10
  · rw [if_pos h]; rw [h] at HM
    exact held_over a b c round _ HM w
  · rw [if_neg h]
    exact held_core a b c round _ _ (by rw [bne_iff_ne]; exact h) HM w

set_option maxHeartbeats 4000000 in
theorem rounds_in (a b c round x e : Int) (he : (e != 10) = true)
    (H1 : Ret 27 #[.int .i64 a, .int .i64 b, .int .i64 c, .int .i64 round] (.tuple #[.int .i64 x, .int .i64 e]))
    (H2 : Ret 28 #[.int .i64 a, .int .i64 b, .int .i64 c, .int .i64 round] (.tuple #[.int .i64 x, .int .i64 e]))
    (H3 : Ret 29 #[.int .i64 a, .int .i64 b, .int .i64 c, .int .i64 round] (.int .i64 x)) (w : World) :
    Calls Try.prog 6 #[.int .i64 a, .int .i64 b, .int .i64 c, .int .i64 round] w fun e w' => e = .returned (.bool true) ∧ Below w.heap.size w w' := by
  have H0 := head_ret
  have HH := bRef w
  go_enter Try.func6, Try.ntmps6
  go_wp2_with (first
    | (go_at_call 26; (with_reducible refine (H0.go _).mono ?_); rintro e wx ⟨rfl, hb⟩; replace HH := bTr HH hb; clear hb)
    | (go_at_call 27; (with_reducible refine (H1.go _).mono ?_); rintro e wx ⟨rfl, hb⟩; replace HH := bTr HH hb; clear hb)
    | (go_at_call 28; (with_reducible refine (H2.go _).mono ?_); rintro e wx ⟨rfl, hb⟩; replace HH := bTr HH hb; clear hb)
    | (go_at_call 29; (with_reducible refine (H3.go _).mono ?_); rintro e wx ⟨rfl, hb⟩; replace HH := bTr HH hb; clear hb))
  go_ret
  exact ⟨rfl, HH⟩

set_option maxHeartbeats 4000000 in
theorem rounds_over (a b c round : Int)
    (H1 : Ret 27 #[.int .i64 a, .int .i64 b, .int .i64 c, .int .i64 round] (.tuple #[.int .i64 0, .int .i64 10]))
    (H2 : Ret 28 #[.int .i64 a, .int .i64 b, .int .i64 c, .int .i64 round] (.tuple #[.int .i64 0, .int .i64 10]))
    (H3 : Ret 29 #[.int .i64 a, .int .i64 b, .int .i64 c, .int .i64 round] (.int .i64 (if neg a b c = true then -9223372036854775808 else 9223372036854775807))) (w : World) :
    Calls Try.prog 6 #[.int .i64 a, .int .i64 b, .int .i64 c, .int .i64 round] w fun e w' => e = .returned (.bool true) ∧ Below w.heap.size w w' := by
  have H0 := head_ret
  cases hA : decide (a < 0) <;> cases hB : decide (b < 0) <;> cases hC : decide (c < 0)
  all_goals
    unfold neg at H3
    rw [hA, hB, hC] at H3
    simp only [bne_self_eq_false, Bool.bne_false, Bool.bne_true, Bool.not_false, if_true, if_false, Bool.false_eq_true] at H3
    have HH := bRef w
    go_enter Try.func6, Try.ntmps6
    go_wp2_with (first
      | (go_at_call 26; (with_reducible refine (H0.go _).mono ?_); rintro e wx ⟨rfl, hb⟩; replace HH := bTr HH hb; clear hb)
      | (go_at_call 27; (with_reducible refine (H1.go _).mono ?_); rintro e wx ⟨rfl, hb⟩; replace HH := bTr HH hb; clear hb)
      | (go_at_call 28; (with_reducible refine (H2.go _).mono ?_); rintro e wx ⟨rfl, hb⟩; replace HH := bTr HH hb; clear hb)
      | (go_at_call 29; (with_reducible refine (H3.go _).mono ?_); rintro e wx ⟨rfl, hb⟩; replace HH := bTr HH hb; clear hb))
    go_ret
    exact ⟨rfl, HH⟩

theorem rounds_walk (a b c round : Int) (ha1 : -9223372036854775808 ≤ a) (ha2 : a < 9223372036854775808) (hb1 : -9223372036854775808 ≤ b) (hb2 : b < 9223372036854775808) (hc1 : -9223372036854775808 ≤ c) (hc2 : c < 9223372036854775808)
    (_hr1 : -9223372036854775808 ≤ round) (_hr2 : round < 9223372036854775808) (w : World) :
    Calls Try.prog 6 #[.int .i64 a, .int .i64 b, .int .i64 c, .int .i64 round] w fun e w' => e = .returned (.bool true) ∧ Below w.heap.size w w' := by
  have H1 := mulDiv_ret round (a := a) (b := b) (c := c) ⟨ha1, ha2⟩ ⟨hb1, hb2⟩ ⟨hc1, hc2⟩
  have H2 := refmd_ret round (a := a) (b := b) (c := c) ⟨ha1, ha2⟩ ⟨hb1, hb2⟩ ⟨hc1, hc2⟩
  have H3 := held_ret round (a := a) (b := b) (c := c) ⟨ha1, ha2⟩ ⟨hb1, hb2⟩ ⟨hc1, hc2⟩
  unfold heldV at H3
  by_cases h : mdE a b c round = 10
  · have hv : mdV a b c round = 0 := by
      unfold mdE at h
      unfold mdV
      split at h
      · omega
      · rename_i g1
        rw [if_neg g1]
        split at h
        · omega
        · rename_i g2
          rw [if_neg g2]
          split at h
          · rename_i g3; rw [if_pos g3]
          · omega
    rw [h, hv] at H1 H2
    rw [if_pos h] at H3
    exact rounds_over a b c round H1 H2 H3 w
  · rw [if_neg h] at H3
    exact rounds_in a b c round _ _ (by rw [bne_iff_ne]; exact h) H1 H2 H3 w

end Go.Proofs.Ytfohfpeeghnocaa
