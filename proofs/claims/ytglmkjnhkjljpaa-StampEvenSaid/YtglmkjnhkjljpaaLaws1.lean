/- StampSums, StampGrains, StampRates, StampNear, StampBack. -/
import Derived.Test.YtglmkjnhkjljpaaRSums
namespace Go.Proofs.Ytglmkjnhkjljpaa
open Go.RowKit

set_option maxHeartbeats 2000000 in
theorem sums_go (a b nv ne s d : Int) (x y : Bool)
    (HN : Ret 11 #[.int .i64 a] (.tuple #[.int .i64 nv, .int .i64 ne]))
    (HM : Ret 12 #[.int .i64 a, .int .i64 65536, .int .i64 1, .int .i64 0] (.tuple #[.int .i64 nv, .int .i64 ne]))
    (HA : Ret 13 #[.int .i64 a, .int .i64 b] (.tuple #[.int .i64 (if x = true then s else 0), .int .i64 (if x = true then 0 else 10)]))
    (HB : Ret 14 #[.int .i64 a, .int .i64 b] (.tuple #[.int .i64 (if x = true then s else 0), .bool x]))
    (HC : Ret 15 #[.int .i64 a, .int .i64 b] (.tuple #[.int .i64 (if y = true then d else 0), .int .i64 (if y = true then 0 else 10)]))
    (HD : Ret 16 #[.int .i64 a, .int .i64 b] (.tuple #[.int .i64 (if y = true then d else 0), .bool y])) (w : World) :
    Calls Try.prog 3 #[.int .i64 a, .int .i64 b] w fun e w' => e = .returned (.bool true) ∧ Below w.heap.size w w' := by
  have HH := head_ret
  have HW := bRef w
  cases x <;> cases y
  all_goals
    simp only [Bool.false_eq_true, if_false, if_true] at HA HB HC HD
    go_enter Try.func3, Try.ntmps3
    go_wp2_with (first
      | (go_at_call 10; (with_reducible refine (HH.go _).mono ?_); rintro e wx ⟨rfl, hb⟩; replace HW := bTr' HW hb; clear hb)
      | (go_at_call 11; (with_reducible refine (HN.go _).mono ?_); rintro e wx ⟨rfl, hb⟩; replace HW := bTr' HW hb; clear hb)
      | (go_at_call 12; (with_reducible refine (HM.go _).mono ?_); rintro e wx ⟨rfl, hb⟩; replace HW := bTr' HW hb; clear hb)
      | (go_at_call 13; (with_reducible refine (HA.go _).mono ?_); rintro e wx ⟨rfl, hb⟩; replace HW := bTr' HW hb; clear hb)
      | (go_at_call 14; (with_reducible refine (HB.go _).mono ?_); rintro e wx ⟨rfl, hb⟩; replace HW := bTr' HW hb; clear hb)
      | (go_at_call 15; (with_reducible refine (HC.go _).mono ?_); rintro e wx ⟨rfl, hb⟩; replace HW := bTr' HW hb; clear hb)
      | (go_at_call 16; (with_reducible refine (HD.go _).mono ?_); rintro e wx ⟨rfl, hb⟩; replace HW := bTr' HW hb; clear hb))
    go_ret
    exact ⟨rfl, HW⟩
theorem sums_walk (a b : Int) (ha1 : -9223372036854775808 ≤ a) (ha2 : a < 9223372036854775808) (hb1 : -9223372036854775808 ≤ b) (hb2 : b < 9223372036854775808) (w : World) :
    Calls Try.prog 3 #[.int .i64 a, .int .i64 b] w fun e w' => e = .returned (.bool true) ∧ Below w.heap.size w w' :=
  sums_go a b _ _ (a + b) (a - b) (InB (a + b)) (InB (a - b)) (ns_ret ⟨ha1, ha2⟩) (refTimes_ret ⟨ha1, ha2⟩ ⟨by omega, by omega⟩ (by omega)) (sAdd_ret ⟨ha1, ha2⟩ ⟨hb1, hb2⟩) (refSum_ret ⟨ha1, ha2⟩ ⟨hb1, hb2⟩) (sSub_ret ⟨ha1, ha2⟩ ⟨hb1, hb2⟩) (refLess_ret ⟨ha1, ha2⟩ ⟨hb1, hb2⟩) w

/-- The reference's Floor, Grain. -/
theorem refFloor_ret {a c : Int} (ha : In64 a) (hc : In64 c) (hc0 : 0 < c) : Ret 20 #[.int .i64 a, .int .i64 c] (.int .i64 (a / c)) := fun w => by
  have HM := refDown_ret ha hc hc0
  generalize a / c = q at *
  go_enter Try.func20, Try.ntmps20
  go_wp2_with (go_at_call 12; (with_reducible refine (HM.go _).mono ?_); rintro e wx ⟨rfl, hb⟩)
  go_ret
  exact ⟨rfl, hb⟩
theorem refGrain_arg (s g : Int) (h : g < 1 ∨ 1048576 < g) (w : World) :
    Calls Try.prog 18 #[.int .i64 s, .int .i64 g] w fun e w' => e = .returned (.tuple #[.int .i64 0, .int .i64 1]) ∧ Below w.heap.size w w' := by
  rcases h with h | h
  · go_enter Try.func18, Try.ntmps18
    go_wp2_with fail
    go_ret2
    exact ⟨rfl, bRef w⟩
  · have h0 : ¬ g < 1 := by omega
    go_enter Try.func18, Try.ntmps18
    go_wp2_with fail
    go_ret2
    exact ⟨rfl, bRef w⟩
theorem refGrain_go (s g G q v x : Int) (h1 : 1 ≤ g) (h2 : g ≤ 1048576) (hG : g * 65536 = G) (HF : Ret 20 #[.int .i64 s, .int .i64 G] (.int .i64 q))
    (HM : Ret 12 #[.int .i64 q, .int .i64 G, .int .i64 1, .int .i64 0] (.tuple #[.int .i64 v, .int .i64 x])) (w : World) :
    Calls Try.prog 18 #[.int .i64 s, .int .i64 g] w fun e w' => e = .returned (.tuple #[.int .i64 v, .int .i64 x]) ∧ Below w.heap.size w w' := by
  have HW := bRef w
  go_enter Try.func18, Try.ntmps18
  go_wp2_with (first
    | (go_at_call 20; (with_reducible refine (HF.go _).mono ?_); rintro e wx ⟨rfl, hb⟩; replace HW := bTr' HW hb; clear hb)
    | (go_at_call 12; (with_reducible refine (HM.go _).mono ?_); rintro e wx ⟨rfl, hb⟩; replace HW := bTr' HW hb; clear hb))
  go_ret2
  exact ⟨rfl, HW⟩
theorem refGrain_ret {s g : Int} (hs : In64 s) (h1 : 1 ≤ g) (h2 : g ≤ 1048576) : Ret 18 #[.int .i64 s, .int .i64 g] (Fit (s - s % (g * 65536))) := fun w => by
  obtain ⟨G, hG⟩ : ∃ G, g * 65536 = G := ⟨_, rfl⟩
  have hG0 : 0 < G := by omega
  have HF := refFloor_ret hs (c := G) ⟨by omega, by omega⟩ hG0
  have hq : In64 (s / G) := by
    unfold In64 at hs ⊢
    have e1 := Int.emod_add_mul_ediv s G
    have e2 := Int.emod_nonneg s (show G ≠ 0 by omega)
    have e3 := Int.emod_lt_of_pos s hG0
    constructor
    · refine Int.le_ediv_of_mul_le hG0 ?_
      have := Int.mul_le_mul_of_nonneg_left (show (1 : Int) ≤ G by omega) (show (0 : Int) ≤ 9223372036854775808 by omega)
      omega
    · refine Int.ediv_lt_of_lt_mul hG0 ?_
      have := Int.mul_le_mul_of_nonneg_left (show (1 : Int) ≤ G by omega) (show (0 : Int) ≤ 9223372036854775808 by omega)
      omega
  have HM := refTimes_ret hq (b := G) ⟨by omega, by omega⟩ hG0
  rw [show s / G * G = s - s % G by have := Int.emod_add_mul_ediv s G; rw [Int.mul_comm G] at this; omega] at HM
  rw [hG]
  exact refGrain_go s g G _ _ _ h1 h2 hG HF HM w

theorem grains_go (s g v x q : Int)
    (HA : Ret 17 #[.int .i64 s, .int .i64 g] (.tuple #[.int .i64 v, .int .i64 x]))
    (HB : Ret 18 #[.int .i64 s, .int .i64 g] (.tuple #[.int .i64 v, .int .i64 x]))
    (HC : RetQ 19 #[.int .i64 s] (.int .i64 q))
    (HD : Ret 20 #[.int .i64 s, .int .i64 65536] (.int .i64 q)) (w : World) :
    Calls Try.prog 4 #[.int .i64 s, .int .i64 g] w fun e w' => e = .returned (.bool true) ∧ Below w.heap.size w w' := by
  have HH := head_ret
  have HW := bRef w
  go_enter Try.func4, Try.ntmps4
  go_wp2_with (first
    | (go_at_call 10; (with_reducible refine (HH.go _).mono ?_); rintro e wx ⟨rfl, hb⟩; replace HW := bTr' HW hb; clear hb)
    | (go_at_call 17; (with_reducible refine (HA.go _).mono ?_); rintro e wx ⟨rfl, hb⟩; replace HW := bTr' HW hb; clear hb)
    | (go_at_call 18; (with_reducible refine (HB.go _).mono ?_); rintro e wx ⟨rfl, hb⟩; replace HW := bTr' HW hb; clear hb)
    | (go_at_call 19; (with_reducible refine (HC.go _).mono ?_); rintro e wx ⟨rfl, rfl⟩)
    | (go_at_call 20; (with_reducible refine (HD.go _).mono ?_); rintro e wx ⟨rfl, hb⟩; replace HW := bTr' HW hb; clear hb))
  go_ret
  exact ⟨rfl, HW⟩
theorem grains_walk (a b : Int) (ha1 : -9223372036854775808 ≤ a) (ha2 : a < 9223372036854775808) (_ : -9223372036854775808 ≤ b) (_ : b < 9223372036854775808) (w : World) :
    Calls Try.prog 4 #[.int .i64 a, .int .i64 b] w fun e w' => e = .returned (.bool true) ∧ Below w.heap.size w w' := by
  have HC := floor_ret a
  have HD := refFloor_ret (a := a) (c := 65536) ⟨ha1, ha2⟩ ⟨by omega, by omega⟩ (by omega)
  by_cases h : b < 1 ∨ 1048576 < b
  · exact grains_go a b 0 1 _ (fun w => grain_arg a b h w) (fun w => refGrain_arg a b h w) HC HD w
  · exact grains_go a b _ _ _ (grain_ret ⟨ha1, ha2⟩ (by omega) (by omega)) (refGrain_ret ⟨ha1, ha2⟩ (by omega) (by omega)) HC HD w

/-- By. -/
theorem by_ret {s r : Int} (hs : In64 s) (hr : In64 r) : Ret 21 #[.int .i64 s, .int .i64 r] (.tuple #[.int .i64 (rV r s 2199023255552), .int .i64 (rE r s 2199023255552)]) := fun w => by
  have HM := rMul_ret hr hs
  generalize rV r s 2199023255552 = v at *
  generalize rE r s 2199023255552 = x at *
  go_enter Try.func21, Try.ntmps21
  go_wp2_with (go_at_call 33; (with_reducible refine (HM.go _).mono ?_); rintro e wx ⟨rfl, hb⟩)
  go_ret2
  exact ⟨rfl, hb⟩
theorem rates_go (s r v x : Int)
    (HA : Ret 21 #[.int .i64 s, .int .i64 r] (.tuple #[.int .i64 v, .int .i64 x]))
    (HB : Ret 12 #[.int .i64 s, .int .i64 r, .int .i64 2199023255552, .int .i64 2] (.tuple #[.int .i64 v, .int .i64 x]))
    (HC : Ret 21 #[.int .i64 s, .int .i64 2199023255552] (.tuple #[.int .i64 s, .int .i64 0])) (w : World) :
    Calls Try.prog 5 #[.int .i64 s, .int .i64 r] w fun e w' => e = .returned (.bool true) ∧ Below w.heap.size w w' := by
  have HH := head_ret
  have HW := bRef w
  go_enter Try.func5, Try.ntmps5
  go_wp2_with (first
    | (go_at_call 10; (with_reducible refine (HH.go _).mono ?_); rintro e wx ⟨rfl, hb⟩; replace HW := bTr' HW hb; clear hb)
    | (go_at_call 21; (with_reducible refine (HA.go _).mono ?_); rintro e wx ⟨rfl, hb⟩; replace HW := bTr' HW hb; clear hb)
    | (go_at_call 12; (with_reducible refine (HB.go _).mono ?_); rintro e wx ⟨rfl, hb⟩; replace HW := bTr' HW hb; clear hb)
    | (go_at_call 21; (with_reducible refine (HC.go _).mono ?_); rintro e wx ⟨rfl, hb⟩; replace HW := bTr' HW hb; clear hb))
  go_ret
  exact ⟨rfl, HW⟩
theorem rates_walk (a b : Int) (ha1 : -9223372036854775808 ≤ a) (ha2 : a < 9223372036854775808) (hb1 : -9223372036854775808 ≤ b) (hb2 : b < 9223372036854775808) (w : World) :
    Calls Try.prog 5 #[.int .i64 a, .int .i64 b] w fun e w' => e = .returned (.bool true) ∧ Below w.heap.size w w' := by
  have HA := by_ret (s := a) (r := b) ⟨ha1, ha2⟩ ⟨hb1, hb2⟩
  have HB := refmd_ret (a := a) (b := b) (c := 2199023255552) 2 ⟨ha1, ha2⟩ ⟨hb1, hb2⟩ ⟨by omega, by omega⟩
  have HC := by_ret (s := a) (r := 2199023255552) ⟨ha1, ha2⟩ ⟨by omega, by omega⟩
  unfold rV rE at HA HC
  rw [(md_comm 2199023255552 a 2199023255552 2).1, (md_comm 2199023255552 a 2199023255552 2).2, (md_self (a := a) (c := 2199023255552) ⟨ha1, ha2⟩ (by omega)).1, (md_self (a := a) (c := 2199023255552) ⟨ha1, ha2⟩ (by omega)).2] at HC
  rw [(md_comm b a 2199023255552 2).1, (md_comm b a 2199023255552 2).2] at HA
  exact rates_go a b _ _ HA HB HC w

end Go.Proofs.Ytglmkjnhkjljpaa
