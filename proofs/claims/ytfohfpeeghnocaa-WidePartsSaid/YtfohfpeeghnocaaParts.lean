/- WideParts: what goes in so often, and what is left, make the number again. -/
import Derived.Test.YtfohfpeeghnocaaSt
namespace Go.Proofs.Ytfohfpeeghnocaa
open Go.RowKit

set_option maxHeartbeats 1000000 in
theorem parts_zero (a1 a0 : Int)
    (H7 : Ret 12 #[.int .u64 7] (.agg #[.int .u64 0, .int .u64 7]))
    (HD : Ret 24 #[.agg #[.int .u64 0, .int .u64 7], .int .u64 2] (.tuple #[.agg #[.int .u64 0, .int .u64 3], .int .u64 1, .int .i64 0]))
    (w : World) :
    Calls Try.prog 9 #[.agg #[.int .u64 a1, .int .u64 a0], .int .u64 0] w fun e w' => e = .returned (.bool true) ∧ Below w.heap.size w w' := by
  have HH := (St.start w).alloc2 (.int .u64 a1) (.int .u64 a0) 24
  go_enter Try.func9, Try.ntmps9
  go_wp2_with (first
    | (go_at_call 12; (with_reducible refine (H7.go _).mono ?_); rintro e wx ⟨rfl, hb⟩; (first | replace HH := HH.call hb | replace HH := HH.drew.call hb | replace HH := (HH.alloc2 _ _ _).call hb | replace HH := (HH.alloc2 _ _ _).drew.call hb | replace HH := ((HH.alloc2 _ _ _).alloc2 _ _ _).call hb); clear hb; (try clear ff); have ff := HH.facts; simp [Facts] at ff)
    | (go_at_call 24; (with_reducible refine (HD.go _).mono ?_); rintro e wx ⟨rfl, hb⟩; (first | replace HH := HH.call hb | replace HH := HH.drew.call hb | replace HH := (HH.alloc2 _ _ _).call hb | replace HH := (HH.alloc2 _ _ _).drew.call hb | replace HH := ((HH.alloc2 _ _ _).alloc2 _ _ _).call hb); clear hb; (try clear ff); have ff := HH.facts; simp [Facts] at ff))
  go_ret
  exact ⟨rfl, (HH.alloc2 _ _ _).below⟩

set_option maxHeartbeats 2000000 in
theorem parts_some (a1 a0 b q1 q0 l p1 p0 h0 s1 s0 : Int) (hb0 : (b == 0) = false) (hl : l < b)
    (H7 : Ret 12 #[.int .u64 7] (.agg #[.int .u64 0, .int .u64 7]))
    (HD : Ret 24 #[.agg #[.int .u64 0, .int .u64 7], .int .u64 2] (.tuple #[.agg #[.int .u64 0, .int .u64 3], .int .u64 1, .int .i64 0]))
    (HE : Ret 24 #[.agg #[.int .u64 a1, .int .u64 a0], .int .u64 b] (.tuple #[.agg #[.int .u64 q1, .int .u64 q0], .int .u64 l, .int .i64 0]))
    (HM : Ret 21 #[.int .u64 q0, .int .u64 b] (.agg #[.int .u64 p1, .int .u64 p0])) (HN : Ret 21 #[.int .u64 q1, .int .u64 b] (.agg #[.int .u64 0, .int .u64 h0]))
    (HA : Ret 14 #[.agg #[.int .u64 p1, .int .u64 p0], .agg #[.int .u64 h0, .int .u64 0]] (.tuple #[.agg #[.int .u64 s1, .int .u64 s0], .int .i64 0]))
    (HL : Ret 12 #[.int .u64 l] (.agg #[.int .u64 0, .int .u64 l]))
    (HB : Ret 14 #[.agg #[.int .u64 s1, .int .u64 s0], .agg #[.int .u64 0, .int .u64 l]] (.tuple #[.agg #[.int .u64 a1, .int .u64 a0], .int .i64 0]))
    (w : World) :
    Calls Try.prog 9 #[.agg #[.int .u64 a1, .int .u64 a0], .int .u64 b] w fun e w' => e = .returned (.bool true) ∧ Below w.heap.size w w' := by
  have HH := (St.start w).alloc2 (.int .u64 a1) (.int .u64 a0) 24
  go_enter Try.func9, Try.ntmps9
  go_wp2_with (first
    | (go_at_call 12; (with_reducible refine (H7.go _).mono ?_); rintro e wx ⟨rfl, hb⟩; (first | replace HH := HH.call hb | replace HH := HH.drew.call hb | replace HH := (HH.alloc2 _ _ _).call hb | replace HH := (HH.alloc2 _ _ _).drew.call hb | replace HH := ((HH.alloc2 _ _ _).alloc2 _ _ _).call hb); clear hb; (try clear ff); have ff := HH.facts; simp [Facts] at ff)
    | (go_at_call 24; (with_reducible refine (HD.go _).mono ?_); rintro e wx ⟨rfl, hb⟩; (first | replace HH := HH.call hb | replace HH := HH.drew.call hb | replace HH := (HH.alloc2 _ _ _).call hb | replace HH := (HH.alloc2 _ _ _).drew.call hb | replace HH := ((HH.alloc2 _ _ _).alloc2 _ _ _).call hb); clear hb; (try clear ff); have ff := HH.facts; simp [Facts] at ff)
    | (go_at_call 24; (with_reducible refine (HE.go _).mono ?_); rintro e wx ⟨rfl, hb⟩; (first | replace HH := HH.call hb | replace HH := HH.drew.call hb | replace HH := (HH.alloc2 _ _ _).call hb | replace HH := (HH.alloc2 _ _ _).drew.call hb | replace HH := ((HH.alloc2 _ _ _).alloc2 _ _ _).call hb); clear hb; (try clear ff); have ff := HH.facts; simp [Facts] at ff)
    | (go_at_call 21; (with_reducible refine (HM.go _).mono ?_); rintro e wx ⟨rfl, hb⟩; (first | replace HH := HH.call hb | replace HH := HH.drew.call hb | replace HH := (HH.alloc2 _ _ _).call hb | replace HH := (HH.alloc2 _ _ _).drew.call hb | replace HH := ((HH.alloc2 _ _ _).alloc2 _ _ _).call hb); clear hb; (try clear ff); have ff := HH.facts; simp [Facts] at ff)
    | (go_at_call 21; (with_reducible refine (HN.go _).mono ?_); rintro e wx ⟨rfl, hb⟩; (first | replace HH := HH.call hb | replace HH := HH.drew.call hb | replace HH := (HH.alloc2 _ _ _).call hb | replace HH := (HH.alloc2 _ _ _).drew.call hb | replace HH := ((HH.alloc2 _ _ _).alloc2 _ _ _).call hb); clear hb; (try clear ff); have ff := HH.facts; simp [Facts] at ff)
    | (go_at_call 14; (with_reducible refine (HA.go _).mono ?_); rintro e wx ⟨rfl, hb⟩; (first | replace HH := HH.call hb | replace HH := HH.drew.call hb | replace HH := (HH.alloc2 _ _ _).call hb | replace HH := (HH.alloc2 _ _ _).drew.call hb | replace HH := ((HH.alloc2 _ _ _).alloc2 _ _ _).call hb); clear hb; (try clear ff); have ff := HH.facts; simp [Facts] at ff)
    | (go_at_call 12; (with_reducible refine (HL.go _).mono ?_); trace_state; fail))
  rename_i wq wp wh _ _
  have H4 : St w [(wx.heap.size, .int .u64 s1, .int .u64 s0), (wh.heap.size, .int .u64 0, .int .u64 h0), (w.heap.size, .int .u64 a1, .int .u64 a0)] (wx.alloc (.cells #[.int .u64 s1, .int .u64 s0] 24)) :=
    (HH.alloc2 (.int .u64 s1) (.int .u64 s0) 24).sub (by simp)
  clear HH ff
  have ff := H4.facts
  simp [Facts] at ff
  go_region_with (first | (go_at_call 12; (with_reducible refine (HL.go _).mono ?_); rintro e wy ⟨rfl, hb⟩; (first | replace H4 := H4.drew.call hb | replace H4 := (H4.alloc2 (.int .u64 0) (.int .u64 0) 24).drew.call hb | replace H4 := (H4.drew.alloc2 (.int .u64 0) (.int .u64 0) 24).call hb); clear hb ff; have ff := H4.facts; simp [Facts] at ff) | (go_at_call 14; (with_reducible refine (HB.go _).mono ?_); rintro e wz ⟨rfl, hb⟩; (first | replace H4 := H4.call hb | replace H4 := (H4.alloc2 (.int .u64 0) (.int .u64 0) 24).call hb); clear hb ff; have ff := H4.facts; simp [Facts] at ff))
  all_goals
    have ap := H4.apart
    simp [Apart, Off] at ap
    go_wp2
    go_ret
    refine ⟨rfl, ?_⟩
    have hw := (List.pairwise_cons.1 H4.order).1 (w.heap.size, .int .u64 a1, .int .u64 a0) (by simp)
    simp at hw
    first | exact (H4.alloc _).below | exact bSet (bSet H4.below _ (by simp; omega) _) _ (by simp; omega) _

theorem parts_walk (a1 a0 b : Int) (h1 : 0 ≤ a1) (k1 : a1 < 18446744073709551616) (h2 : 0 ≤ a0) (k2 : a0 < 18446744073709551616) (h3 : 0 ≤ b) (k3 : b < 18446744073709551616) (w : World) :
    Calls Try.prog 9 #[.agg #[.int .u64 a1, .int .u64 a0], .int .u64 b] w fun e w' => e = .returned (.bool true) ∧ Below w.heap.size w w' := by
  have H7 : Ret 12 #[.int .u64 7] (.agg #[.int .u64 0, .int .u64 7]) := fun w => wOf 7 w
  have HD : Ret 24 #[.agg #[.int .u64 0, .int .u64 7], .int .u64 2] (.tuple #[.agg #[.int .u64 0, .int .u64 3], .int .u64 1, .int .i64 0]) := fun w => wDiv 0 7 2 (by omega) (by omega) (by omega) (by omega) (by omega) (by omega) w
  rcases Int.lt_or_le 0 b with hb | hb
  · have hbz : (b == 0) = false := by rw [beq_eq_false_iff_ne]; omega
    have d1 := Int.mul_ediv_add_emod a1 b
    have d2 := Int.mul_ediv_add_emod (a1 % b * 18446744073709551616 + a0) b
    have r1 := Int.emod_nonneg a1 (show b ≠ 0 by omega)
    have r2 := Int.emod_lt_of_pos a1 hb
    have r3 := Int.emod_nonneg (a1 % b * 18446744073709551616 + a0) (show b ≠ 0 by omega)
    have r4 := Int.emod_lt_of_pos (a1 % b * 18446744073709551616 + a0) hb
    have q1 : 0 ≤ a1 / b := Int.ediv_nonneg h1 (by omega)
    have q2 : a1 / b < 18446744073709551616 := Int.lt_of_le_of_lt (Int.ediv_le_self b h1) k1
    have q3 : 0 ≤ (a1 % b * 18446744073709551616 + a0) / b := Int.ediv_nonneg (by omega) (by omega)
    have q4 : (a1 % b * 18446744073709551616 + a0) / b < 18446744073709551616 := Int.ediv_lt_of_lt_mul hb (by omega)
    have m1 : 0 ≤ b * (a1 / b) := Int.mul_nonneg (by omega) q1
    have m2 : 0 ≤ b * ((a1 % b * 18446744073709551616 + a0) / b) := Int.mul_nonneg (by omega) q3
    have HE := fun w => wDiv a1 a0 b h1 h2 hb k1 k2 k3 w
    have HM := fun w => wMul ((a1 % b * 18446744073709551616 + a0) / b) b q3 h3 q4 k3 w
    have HN := fun w => wMul (a1 / b) b q1 h3 q2 k3 w
    rw [Int.mul_comm _ b] at HM HN
    rw [Int.ediv_eq_zero_of_lt m1 (by omega), Int.emod_eq_of_lt m1 (by omega)] at HN
    generalize hP : b * ((a1 % b * 18446744073709551616 + a0) / b) = p at *
    generalize hH : b * (a1 / b) = h at *
    have HA := fun w => wAdd_ok (p / 18446744073709551616) (p % 18446744073709551616) h 0 (by omega) (by omega) (by omega) (by omega) (by omega) (by omega) (by omega) (by omega) (by omega) w
    have HB := fun w => wAdd_ok (p / 18446744073709551616 + h + (p % 18446744073709551616 + 0) / 18446744073709551616) ((p % 18446744073709551616 + 0) % 18446744073709551616) 0 ((a1 % b * 18446744073709551616 + a0) % b) (by omega) (by omega) (by omega) (by omega) (by omega) (by omega) (by omega) (by omega) (by omega) w
    refine parts_some a1 a0 b _ _ _ _ _ _ _ _ hbz r4 H7 HD HE HM HN HA (fun w => wOf _ w) (fun w => (HB w).mono fun e w' h => ⟨h.1.trans (ret_eq ?_), h.2⟩) w
    rw [agg2_eq (k := .u64) (j := .u64) (c := a1) (d := a0) (by omega) (by omega)]
  · have e : b = 0 := by omega
    subst e
    exact parts_zero a1 a0 H7 HD w

end Go.Proofs.Ytfohfpeeghnocaa
