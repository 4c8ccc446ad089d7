/- WideTurns: what was added and then taken away leaves what it was; sums go either way round. -/
import Derived.Test.YtfohfpeeghnocaaSt
import Derived.Test.YtfohfpeeghnocaaSub
namespace Go.Proofs.Ytfohfpeeghnocaa
open Go.RowKit

set_option maxHeartbeats 1000000 in
theorem turns_over (a1 a0 b1 b0 : Int)
    (H7 : Ret 12 #[.int .u64 7] (.agg #[.int .u64 0, .int .u64 7])) (H8 : Ret 12 #[.int .u64 8] (.agg #[.int .u64 0, .int .u64 8]))
    (HC : Ret 20 #[.agg #[.int .u64 0, .int .u64 7], .agg #[.int .u64 0, .int .u64 8]] (.int .i64 (-1)))
    (HA : Ret 14 #[.agg #[.int .u64 a1, .int .u64 a0], .agg #[.int .u64 b1, .int .u64 b0]] (.tuple #[.agg #[.int .u64 0, .int .u64 0], .int .i64 10]))
    (HB : Ret 14 #[.agg #[.int .u64 b1, .int .u64 b0], .agg #[.int .u64 a1, .int .u64 a0]] (.tuple #[.agg #[.int .u64 0, .int .u64 0], .int .i64 10]))
    (w : World) :
    Calls Try.prog 10 #[.agg #[.int .u64 a1, .int .u64 a0], .agg #[.int .u64 b1, .int .u64 b0]] w fun e w' => e = .returned (.bool true) ∧ Below w.heap.size w w' := by
  have HH := ((St.start w).alloc2 (.int .u64 a1) (.int .u64 a0) 24).alloc2 (.int .u64 b1) (.int .u64 b0) 24
  go_enter Try.func10, Try.ntmps10
  go_wp2_with (first
    | (go_at_call 12; (with_reducible refine (H7.go _).mono ?_); rintro e wx ⟨rfl, hb⟩; (first | replace HH := HH.call hb | replace HH := HH.drew.call hb | replace HH := (HH.alloc2 _ _ _).call hb | replace HH := (HH.alloc2 _ _ _).drew.call hb | replace HH := ((HH.alloc2 _ _ _).alloc2 _ _ _).call hb); clear hb; (try clear ff); have ff := HH.facts; simp [Facts] at ff)
    | (go_at_call 12; (with_reducible refine (H8.go _).mono ?_); rintro e wx ⟨rfl, hb⟩; (first | replace HH := HH.call hb | replace HH := HH.drew.call hb | replace HH := (HH.alloc2 _ _ _).call hb | replace HH := (HH.alloc2 _ _ _).drew.call hb | replace HH := ((HH.alloc2 _ _ _).alloc2 _ _ _).call hb); clear hb; (try clear ff); have ff := HH.facts; simp [Facts] at ff)
    | (go_at_call 20; (with_reducible refine (HC.go _).mono ?_); rintro e wx ⟨rfl, hb⟩; (first | replace HH := HH.call hb | replace HH := HH.drew.call hb | replace HH := (HH.alloc2 _ _ _).call hb | replace HH := (HH.alloc2 _ _ _).drew.call hb | replace HH := ((HH.alloc2 _ _ _).alloc2 _ _ _).call hb); clear hb; (try clear ff); have ff := HH.facts; simp [Facts] at ff)
    | (go_at_call 14; (with_reducible refine (HA.go _).mono ?_); rintro e wx ⟨rfl, hb⟩; (first | replace HH := HH.call hb | replace HH := HH.drew.call hb | replace HH := (HH.alloc2 _ _ _).call hb | replace HH := (HH.alloc2 _ _ _).drew.call hb | replace HH := ((HH.alloc2 _ _ _).alloc2 _ _ _).call hb); clear hb; (try clear ff); have ff := HH.facts; simp [Facts] at ff)
    | (go_at_call 14; (with_reducible refine (HB.go _).mono ?_); rintro e wx ⟨rfl, hb⟩; (first | replace HH := HH.call hb | replace HH := HH.drew.call hb | replace HH := (HH.alloc2 _ _ _).call hb | replace HH := (HH.alloc2 _ _ _).drew.call hb | replace HH := ((HH.alloc2 _ _ _).alloc2 _ _ _).call hb); clear hb; (try clear ff); have ff := HH.facts; simp [Facts] at ff))
  go_ret
  exact ⟨rfl, ((HH.alloc2 _ _ _)).below⟩

set_option maxHeartbeats 1000000 in
theorem turns_ok (a1 a0 b1 b0 s1 s0 k k' : Int)
    (H7 : Ret 12 #[.int .u64 7] (.agg #[.int .u64 0, .int .u64 7])) (H8 : Ret 12 #[.int .u64 8] (.agg #[.int .u64 0, .int .u64 8]))
    (HC : Ret 20 #[.agg #[.int .u64 0, .int .u64 7], .agg #[.int .u64 0, .int .u64 8]] (.int .i64 (-1)))
    (HA : Ret 14 #[.agg #[.int .u64 a1, .int .u64 a0], .agg #[.int .u64 b1, .int .u64 b0]] (.tuple #[.agg #[.int .u64 s1, .int .u64 s0], .int .i64 0]))
    (HB : Ret 14 #[.agg #[.int .u64 b1, .int .u64 b0], .agg #[.int .u64 a1, .int .u64 a0]] (.tuple #[.agg #[.int .u64 s1, .int .u64 s0], .int .i64 0]))
    (HS : Ret 18 #[.agg #[.int .u64 s1, .int .u64 s0], .agg #[.int .u64 b1, .int .u64 b0]] (.tuple #[.agg #[.int .u64 a1, .int .u64 a0], .int .i64 0]))
    (HK : Ret 20 #[.agg #[.int .u64 s1, .int .u64 s0], .agg #[.int .u64 a1, .int .u64 a0]] (.int .i64 k)) (hk : 0 ≤ k) 
    (HL : Ret 20 #[.agg #[.int .u64 a1, .int .u64 a0], .agg #[.int .u64 b1, .int .u64 b0]] (.int .i64 k')) (HM : Ret 20 #[.agg #[.int .u64 b1, .int .u64 b0], .agg #[.int .u64 a1, .int .u64 a0]] (.int .i64 (-k'))) (hk1 : -1 ≤ k') (hk2 : k' ≤ 1)
    (w : World) :
    Calls Try.prog 10 #[.agg #[.int .u64 a1, .int .u64 a0], .agg #[.int .u64 b1, .int .u64 b0]] w fun e w' => e = .returned (.bool true) ∧ Below w.heap.size w w' := by
  have HH := ((St.start w).alloc2 (.int .u64 a1) (.int .u64 a0) 24).alloc2 (.int .u64 b1) (.int .u64 b0) 24
  go_enter Try.func10, Try.ntmps10
  go_wp2_with (first
    | (go_at_call 12; (with_reducible refine (H7.go _).mono ?_); rintro e wx ⟨rfl, hb⟩; (first | replace HH := HH.call hb | replace HH := HH.drew.call hb | replace HH := (HH.alloc2 _ _ _).call hb | replace HH := (HH.alloc2 _ _ _).drew.call hb | replace HH := ((HH.alloc2 _ _ _).alloc2 _ _ _).call hb); clear hb; (try clear ff); have ff := HH.facts; simp [Facts] at ff)
    | (go_at_call 12; (with_reducible refine (H8.go _).mono ?_); rintro e wx ⟨rfl, hb⟩; (first | replace HH := HH.call hb | replace HH := HH.drew.call hb | replace HH := (HH.alloc2 _ _ _).call hb | replace HH := (HH.alloc2 _ _ _).drew.call hb | replace HH := ((HH.alloc2 _ _ _).alloc2 _ _ _).call hb); clear hb; (try clear ff); have ff := HH.facts; simp [Facts] at ff)
    | (go_at_call 20; (with_reducible refine (HC.go _).mono ?_); rintro e wx ⟨rfl, hb⟩; (first | replace HH := HH.call hb | replace HH := HH.drew.call hb | replace HH := (HH.alloc2 _ _ _).call hb | replace HH := (HH.alloc2 _ _ _).drew.call hb | replace HH := ((HH.alloc2 _ _ _).alloc2 _ _ _).call hb); clear hb; (try clear ff); have ff := HH.facts; simp [Facts] at ff)
    | (go_at_call 14; (with_reducible refine (HA.go _).mono ?_); rintro e wx ⟨rfl, hb⟩; (first | replace HH := HH.call hb | replace HH := HH.drew.call hb | replace HH := (HH.alloc2 _ _ _).call hb | replace HH := (HH.alloc2 _ _ _).drew.call hb | replace HH := ((HH.alloc2 _ _ _).alloc2 _ _ _).call hb); clear hb; (try clear ff); have ff := HH.facts; simp [Facts] at ff)
    | (go_at_call 14; (with_reducible refine (HB.go _).mono ?_); rintro e wx ⟨rfl, hb⟩; (first | replace HH := HH.call hb | replace HH := HH.drew.call hb | replace HH := (HH.alloc2 _ _ _).call hb | replace HH := (HH.alloc2 _ _ _).drew.call hb | replace HH := ((HH.alloc2 _ _ _).alloc2 _ _ _).call hb); clear hb; (try clear ff); have ff := HH.facts; simp [Facts] at ff)
    | (go_at_call 18; (with_reducible refine (HS.go _).mono ?_); rintro e wx ⟨rfl, hb⟩; (first | replace HH := HH.call hb | replace HH := HH.drew.call hb | replace HH := (HH.alloc2 _ _ _).call hb | replace HH := (HH.alloc2 _ _ _).drew.call hb | replace HH := ((HH.alloc2 _ _ _).alloc2 _ _ _).call hb); clear hb; (try clear ff); have ff := HH.facts; simp [Facts] at ff)
    | (go_at_call 20; (with_reducible refine (HK.go _).mono ?_); rintro e wx ⟨rfl, hb⟩; (first | replace HH := HH.call hb | replace HH := HH.drew.call hb | replace HH := (HH.alloc2 _ _ _).call hb | replace HH := (HH.alloc2 _ _ _).drew.call hb | replace HH := ((HH.alloc2 _ _ _).alloc2 _ _ _).call hb); clear hb; (try clear ff); have ff := HH.facts; simp [Facts] at ff)
    | (go_at_call 20; (with_reducible refine (HL.go _).mono ?_); rintro e wx ⟨rfl, hb⟩; (first | replace HH := HH.call hb | replace HH := HH.drew.call hb | replace HH := (HH.alloc2 _ _ _).call hb | replace HH := (HH.alloc2 _ _ _).drew.call hb | replace HH := ((HH.alloc2 _ _ _).alloc2 _ _ _).call hb); clear hb; (try clear ff); have ff := HH.facts; simp [Facts] at ff)
    | (go_at_call 20; (with_reducible refine (HM.go _).mono ?_); rintro e wx ⟨rfl, hb⟩; (first | replace HH := HH.call hb | replace HH := HH.drew.call hb | replace HH := (HH.alloc2 _ _ _).call hb | replace HH := (HH.alloc2 _ _ _).drew.call hb | replace HH := ((HH.alloc2 _ _ _).alloc2 _ _ _).call hb); clear hb; (try clear ff); have ff := HH.facts; simp [Facts] at ff))
  rename_i ws wt _ _
  have H4 : St w [(wx.heap.size, .int .u64 a1, .int .u64 a0), (ws.heap.size, .int .u64 s1, .int .u64 s0), (w.heap.size + 1, .int .u64 b1, .int .u64 b0), (w.heap.size, .int .u64 a1, .int .u64 a0)] (wx.alloc (.cells #[.int .u64 a1, .int .u64 a0] 24)) :=
    (HH.alloc2 (.int .u64 a1) (.int .u64 a0) 24).sub (by simp)
  clear HH ff
  go_region_held3 (fun W => W.cell? ⟨wx.heap.size, 0, none⟩ = some (.int .u64 a1) ∧ W.cell? ⟨wx.heap.size, 1, none⟩ = some (.int .u64 a0) ∧ W.cell? ⟨ws.heap.size, 0, none⟩ = some (.int .u64 s1) ∧ W.cell? ⟨ws.heap.size, 1, none⟩ = some (.int .u64 s0) ∧
      W.cell? ⟨w.heap.size + 1, 0, none⟩ = some (.int .u64 b1) ∧ W.cell? ⟨w.heap.size + 1, 1, none⟩ = some (.int .u64 b0) ∧ W.cell? ⟨w.heap.size, 0, none⟩ = some (.int .u64 a1) ∧ W.cell? ⟨w.heap.size, 1, none⟩ = some (.int .u64 a0) ∧
      St w [(wx.heap.size, .int .u64 a1, .int .u64 a0), (ws.heap.size, .int .u64 s1, .int .u64 s0), (w.heap.size + 1, .int .u64 b1, .int .u64 b0), (w.heap.size, .int .u64 a1, .int .u64 a0)] W)
    (first | exact H4.drew.four | (go_split_ands; first | exact (St.call (by assumption) hb1).four | exact (St.call (by assumption) hb2).four | exact (St.call (by assumption) hb3).four))
    (first | (go_at_call 20; (with_reducible refine (HK.go _).mono ?_); rintro e w1 ⟨rfl, hb1⟩) | (go_at_call 20; (with_reducible refine (HL.go _).mono ?_); rintro e w2 ⟨rfl, hb2⟩) | (go_at_call 20; (with_reducible refine (HM.go _).mono ?_); rintro e w3 ⟨rfl, hb3⟩))
  go_split_ands
  go_wp2
  go_ret
  exact ⟨ret_b (beq_iff_eq.2 (IntWalk.i64_in _ (by omega)).symm), St.below (by assumption)⟩

theorem turns_walk (a1 a0 b1 b0 : Int) (h1 : 0 ≤ a1) (k1 : a1 < 18446744073709551616) (h2 : 0 ≤ a0) (k2 : a0 < 18446744073709551616) (h3 : 0 ≤ b1) (k3 : b1 < 18446744073709551616) (h4 : 0 ≤ b0) (k4 : b0 < 18446744073709551616) (w : World) :
    Calls Try.prog 10 #[.agg #[.int .u64 a1, .int .u64 a0], .agg #[.int .u64 b1, .int .u64 b0]] w fun e w' => e = .returned (.bool true) ∧ Below w.heap.size w w' := by
  rcases Int.lt_or_le (a1 + b1 + (a0 + b0) / 18446744073709551616) 18446744073709551616 with h | h
  · have hs : ∃ k : Int, 0 ≤ k ∧ Ret 20 #[.agg #[.int .u64 (a1 + b1 + (a0 + b0) / 18446744073709551616), .int .u64 ((a0 + b0) % 18446744073709551616)], .agg #[.int .u64 a1, .int .u64 a0]] (.int .i64 k) := by
      by_cases e : a1 + b1 + (a0 + b0) / 18446744073709551616 = a1 ∧ (a0 + b0) % 18446744073709551616 = a0
      · refine ⟨0, by omega, ?_⟩
        rw [e.1, e.2]
        exact fun w => wCmp_eq a1 a0 w
      · exact ⟨1, by omega, fun w => wCmp_gt _ _ _ _ (by omega) w⟩
    have hk : ∃ k : Int, -1 ≤ k ∧ k ≤ 1 ∧ Ret 20 #[.agg #[.int .u64 a1, .int .u64 a0], .agg #[.int .u64 b1, .int .u64 b0]] (.int .i64 k) ∧ Ret 20 #[.agg #[.int .u64 b1, .int .u64 b0], .agg #[.int .u64 a1, .int .u64 a0]] (.int .i64 (-k)) := by
      by_cases e : a1 = b1 ∧ a0 = b0
      · refine ⟨0, by omega, by omega, ?_⟩
        rw [e.1, e.2]
        exact ⟨fun w => wCmp_eq b1 b0 w, fun w => wCmp_eq b1 b0 w⟩
      · by_cases l : a1 < b1 ∨ a1 = b1 ∧ a0 < b0
        · exact ⟨-1, by omega, by omega, fun w => wCmp_lt _ _ _ _ l w, fun w => wCmp_gt _ _ _ _ (by omega) w⟩
        · exact ⟨1, by omega, by omega, fun w => wCmp_gt _ _ _ _ (by omega) w, fun w => wCmp_lt _ _ _ _ (by omega) w⟩
    obtain ⟨k, hk0, hK⟩ := hs
    obtain ⟨k', hk1, hk2, hL, hM⟩ := hk
    refine turns_ok a1 a0 b1 b0 _ _ k k' (fun w => wOf 7 w) (fun w => wOf 8 w) (fun w => wCmp_lt 0 7 0 8 (by omega) w) (fun w => wAdd_ok _ _ _ _ h1 h2 h3 h4 k1 k2 k3 k4 h w) (fun w => ?_) (fun w => ?_) hK hk0 hL hM hk1 hk2 w
    · have := wAdd_ok b1 b0 a1 a0 h3 h4 h1 h2 k3 k4 k1 k2 (by omega) w
      rw [Int.add_comm b1 a1, Int.add_comm b0 a0] at this
      exact this
    · refine (wSub_ok _ _ b1 b0 ((a0 + b0) / 18446744073709551616) (by omega) (by omega) (by omega) (by omega) (by omega) (by omega) (by omega) (by omega) (by omega) (by omega) w).mono fun e w' h => ⟨h.1.trans (ret_eq ?_), h.2⟩
      rw [agg2_eq (k := .u64) (j := .u64) (c := a1) (d := a0) (by omega) (by omega)]
  · refine turns_over a1 a0 b1 b0 (fun w => wOf 7 w) (fun w => wOf 8 w) (fun w => wCmp_lt 0 7 0 8 (by omega) w) (fun w => wAdd_over _ _ _ _ h1 h2 h3 h4 k1 k2 k3 k4 h w) (fun w => wAdd_over _ _ _ _ h3 h4 h1 h2 k3 k4 k1 k2 (by omega) w) w

end Go.Proofs.Ytfohfpeeghnocaa
