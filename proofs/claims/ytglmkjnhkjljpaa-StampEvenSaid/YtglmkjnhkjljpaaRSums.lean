/- The reference's sums and differences of two ints. -/
import Derived.Test.YtglmkjnhkjljpaaMd3
namespace Go.Proofs.Ytglmkjnhkjljpaa
open Go.RowKit

def IntRes (Q : Nat) (m : Bool) : Value := .tuple #[.int .i64 (if intOver Q m = true then 0 else intVal Q m), .bool (!intOver Q m)]
def SumRes (a : Int) : Value := .tuple #[.int .i64 (fitV a), .bool (InB a)]
theorem int_res (v : Value) (Q : Nat) (minus : Bool) (w : World) (h : Num w v Q) (hQ : Q < 65536 ^ 9) :
    Calls Try.prog 29 #[v, .bool minus] w fun e w' => e = .returned (IntRes Q minus) ∧ Below w.heap.size w w' := int_any v Q minus w h hQ

set_option maxHeartbeats 2000000 in
theorem rsum_alike (a b : Int) (m : Bool) (ha : In64 a) (hb : In64 b) (h1 : decide (a < 0) = m) (h2 : decide (b < 0) = m) (w : World) :
    Calls Try.prog 14 #[.int .i64 a, .int .i64 b] w fun e w' => e = .returned (IntRes (a.natAbs + b.natAbs) m) ∧ Below w.heap.size w w' := by
  unfold In64 at ha hb
  have HSa := Lib.hid (fun w => abs_any a ha.1 ha.2 w)
  have HSb := Lib.hid (fun w => abs_any b hb.1 hb.2 w)
  have hA : a.natAbs < 65536 ^ 5 := by omega
  have hB : b.natAbs < 65536 ^ 5 := by omega
  have hQ : a.natAbs + b.natAbs < 65536 ^ 9 := by omega
  have HQ := Lib.hid hQ
  have HAL := Lib.hid hA
  have HBL := Lib.hid hB
  clear ha hb
  generalize a.natAbs = A at *
  generalize b.natAbs = B at *
  clear hA hB hQ
  unfold IntRes
  have HI := Lib.hid (fun v w (h : Num w v (A + B)) => int_res v (A + B) m w h HQ.out)
  unfold IntRes at HI
  generalize (if intOver (A + B) m = true then 0 else intVal (A + B) m) = X at *
  generalize (!intOver (A + B) m) = Y at *
  cases m
  all_goals
    go_enter Try.func14, Try.ntmps14
    go_wp2_with (first
      | (go_at_call 28; (with_reducible refine (HSa.out _).mono ?_); rintro e w1 ⟨v1, rfl, hn1, hb1, hf1⟩; have HA := Lib.hid hn1; have B1 := Lib.hid hb1; clear hn1 hb1 hf1)
      | (go_at_call 28; (with_reducible refine (HSb.out _).mono ?_); rintro e w2 ⟨v2, rfl, hn2, hb2, hf2⟩; have HB := Lib.hid hn2; have HA2 := Lib.hid (HA.out.below hb2); have B2 := Lib.hid (bTr' B1.out hb2); clear hn2 hb2 hf2)
      | (go_at_call 30; (with_reducible refine (add_any HA2.out HB.out (L := 5) HAL.out HBL.out (by omega)).mono ?_); rintro e w3 ⟨v3, rfl, hn3, hb3, hf3⟩; have HP := Lib.hid hn3; have B3 := Lib.hid (bTr' B2.out hb3); clear hn3 hb3 hf3)
      | (go_at_call 29; (with_reducible refine (HI.out _ _ HP.out).mono ?_); rintro e w4 ⟨rfl, hb4⟩; have B4 := Lib.hid (bTr' B3.out hb4); clear hb4))
    go_ret2
    exact ⟨rfl, B4.out⟩

set_option maxHeartbeats 2000000 in
theorem rsum_ge (a b : Int) (m : Bool) (ha : In64 a) (hb : In64 b) (h1 : decide (a < 0) = m) (h2 : decide (b < 0) = !m) (hge : b.natAbs ≤ a.natAbs) (w : World) :
    Calls Try.prog 14 #[.int .i64 a, .int .i64 b] w fun e w' => e = .returned (IntRes (a.natAbs - b.natAbs) m) ∧ Below w.heap.size w w' := by
  unfold In64 at ha hb
  have HSa := Lib.hid (fun w => abs_any a ha.1 ha.2 w)
  have HSb := Lib.hid (fun w => abs_any b hb.1 hb.2 w)
  have hA : a.natAbs < 65536 ^ 5 := by omega
  have hQ : a.natAbs - b.natAbs < 65536 ^ 9 := by omega
  have HQ := Lib.hid hQ
  have HAL := Lib.hid hA
  have HGE := Lib.hid hge
  clear ha hb
  generalize a.natAbs = A at *
  generalize b.natAbs = B at *
  clear hA hQ hge
  have hcmp : ∃ c : Int, Dg.cmpN A B = c ∧ 0 ≤ c := by
    rcases Nat.lt_or_ge B A with g | g
    · exact ⟨1, Dg.cmpN_gt g, by omega⟩
    · exact ⟨0, Dg.cmpN_eq' (by have := HGE.out; omega), by omega⟩
  obtain ⟨c, hc, hc0⟩ := hcmp
  have HC := Lib.hid hc
  clear hc
  unfold IntRes
  have HI := Lib.hid (fun v w (h : Num w v (A - B)) => int_res v (A - B) m w h HQ.out)
  unfold IntRes at HI
  generalize (if intOver (A - B) m = true then 0 else intVal (A - B) m) = X at *
  generalize (!intOver (A - B) m) = Y at *
  cases m
  all_goals
    simp only [Bool.not_true, Bool.not_false] at h2
    go_enter Try.func14, Try.ntmps14
    go_wp2_with (first
      | (go_at_call 28; (with_reducible refine (HSa.out _).mono ?_); rintro e w1 ⟨v1, rfl, hn1, hb1, hf1⟩; have HA := Lib.hid hn1; have B1 := Lib.hid hb1; clear hn1 hb1 hf1)
      | (go_at_call 28; (with_reducible refine (HSb.out _).mono ?_); rintro e w2 ⟨v2, rfl, hn2, hb2, hf2⟩; have HB := Lib.hid hn2; have HA2 := Lib.hid (HA.out.below hb2); have B2 := Lib.hid (bTr' B1.out hb2); clear hn2 hb2 hf2)
      | (go_at_call 31; (with_reducible refine (cmp_at HA2.out HB.out HAL.out (by omega) HC.out).mono ?_); rintro e w3 ⟨rfl, q3, rfl⟩)
      | (go_at_call 32; (with_reducible refine (sub_any (HA2.out.drewN q3) (HB.out.drewN q3) (L := 5) HGE.out HAL.out (by omega)).mono ?_); rintro e w4 ⟨v4, rfl, hn4, hb4, hf4⟩; have HP := Lib.hid hn4; have B4 := Lib.hid (bTr' (bDr' B2.out q3) hb4); clear hn4 hb4 hf4)
      | (go_at_call 29; (with_reducible refine (HI.out _ _ HP.out).mono ?_); rintro e w5 ⟨rfl, hb5⟩; have B5 := Lib.hid (bTr' B4.out hb5); clear hb5))
    go_ret2
    exact ⟨rfl, B5.out⟩

set_option maxHeartbeats 2000000 in
theorem rsum_lt (a b : Int) (m : Bool) (ha : In64 a) (hb : In64 b) (h1 : decide (a < 0) = !m) (h2 : decide (b < 0) = m) (hge : a.natAbs < b.natAbs) (w : World) :
    Calls Try.prog 14 #[.int .i64 a, .int .i64 b] w fun e w' => e = .returned (IntRes (b.natAbs - a.natAbs) m) ∧ Below w.heap.size w w' := by
  unfold In64 at ha hb
  have HSa := Lib.hid (fun w => abs_any a ha.1 ha.2 w)
  have HSb := Lib.hid (fun w => abs_any b hb.1 hb.2 w)
  have hA : a.natAbs < 65536 ^ 5 := by omega
  have hQ : b.natAbs - a.natAbs < 65536 ^ 9 := by omega
  have HQ := Lib.hid hQ
  have HAL := Lib.hid hA
  have hB : b.natAbs < 65536 ^ 5 := by omega
  have HBL := Lib.hid hB
  have HGE := Lib.hid hge
  clear ha hb
  generalize a.natAbs = A at *
  generalize b.natAbs = B at *
  clear hA hB hQ hge
  have hcmp : ∃ c : Int, Dg.cmpN A B = c ∧ c < 0 := ⟨-1, Dg.cmpN_lt HGE.out, by omega⟩
  obtain ⟨c, hc, hc0⟩ := hcmp
  have HC := Lib.hid hc
  clear hc
  unfold IntRes
  have HI := Lib.hid (fun v w (h : Num w v (B - A)) => int_res v (B - A) m w h HQ.out)
  unfold IntRes at HI
  generalize (if intOver (B - A) m = true then 0 else intVal (B - A) m) = X at *
  generalize (!intOver (B - A) m) = Y at *
  cases m
  all_goals
    simp only [Bool.not_true, Bool.not_false] at h1
    go_enter Try.func14, Try.ntmps14
    go_wp2_with (first
      | (go_at_call 28; (with_reducible refine (HSa.out _).mono ?_); rintro e w1 ⟨v1, rfl, hn1, hb1, hf1⟩; have HA := Lib.hid hn1; have B1 := Lib.hid hb1; clear hn1 hb1 hf1)
      | (go_at_call 28; (with_reducible refine (HSb.out _).mono ?_); rintro e w2 ⟨v2, rfl, hn2, hb2, hf2⟩; have HB := Lib.hid hn2; have HA2 := Lib.hid (HA.out.below hb2); have B2 := Lib.hid (bTr' B1.out hb2); clear hn2 hb2 hf2)
      | (go_at_call 31; (with_reducible refine (cmp_at HA2.out HB.out HAL.out (by omega) HC.out).mono ?_); rintro e w3 ⟨rfl, q3, rfl⟩)
      | (go_at_call 32; (with_reducible refine (sub_any (HB.out.drewN q3) (HA2.out.drewN q3) (L := 5) (Nat.le_of_lt HGE.out) HBL.out (by omega)).mono ?_); rintro e w4 ⟨v4, rfl, hn4, hb4, hf4⟩; have HP := Lib.hid hn4; have B4 := Lib.hid (bTr' (bDr' B2.out q3) hb4); clear hn4 hb4 hf4)
      | (go_at_call 29; (with_reducible refine (HI.out _ _ HP.out).mono ?_); rintro e w5 ⟨rfl, hb5⟩; have B5 := Lib.hid (bTr' B4.out hb5); clear hb5))
    go_ret2
    exact ⟨rfl, B5.out⟩

theorem res_eq {Q : Nat} {m : Bool} {x : Int} (h : (if m = true then -(Q : Int) else (Q : Int)) = x) : IntRes Q m = SumRes x := by
  unfold IntRes SumRes intOver intVal fitV
  cases m
  · simp only [Bool.false_eq_true, if_false] at h ⊢
    subst h
    cases hb : InB (Q : Int)
    · have := inB_false hb
      rw [decide_eq_true (show 9223372036854775807 < Q by omega)]; simp
    · have := inB_true hb
      unfold In64 at this
      rw [decide_eq_false (show ¬ 9223372036854775807 < Q by omega)]; simp
  · simp only [if_true] at h ⊢
    subst h
    cases hb : InB (-(Q : Int))
    · have := inB_false hb
      rw [decide_eq_true (show 9223372036854775808 < Q by omega)]; simp
    · have := inB_true hb
      unfold In64 at this
      rw [decide_eq_false (show ¬ 9223372036854775808 < Q by omega)]; simp

theorem refSum_ret {a b : Int} (ha : In64 a) (hb : In64 b) : Ret 14 #[.int .i64 a, .int .i64 b] (SumRes (a + b)) := fun w => by
  by_cases h1 : a < 0 <;> by_cases h2 : b < 0
  · have := rsum_alike a b true ha hb (decide_eq_true h1) (decide_eq_true h2) w
    rw [res_eq (x := a + b) (by simp; omega)] at this
    exact this
  · rcases Nat.lt_or_ge a.natAbs b.natAbs with g | g
    · have := rsum_lt a b false ha hb (decide_eq_true h1) (decide_eq_false h2) g w
      rw [res_eq (x := a + b) (by simp; omega)] at this
      exact this
    · have := rsum_ge a b true ha hb (decide_eq_true h1) (decide_eq_false h2) g w
      rw [res_eq (x := a + b) (by simp; omega)] at this
      exact this
  · rcases Nat.lt_or_ge a.natAbs b.natAbs with g | g
    · have := rsum_lt a b true ha hb (decide_eq_false h1) (decide_eq_true h2) g w
      rw [res_eq (x := a + b) (by simp; omega)] at this
      exact this
    · have := rsum_ge a b false ha hb (decide_eq_false h1) (decide_eq_true h2) g w
      rw [res_eq (x := a + b) (by simp; omega)] at this
      exact this
  · have := rsum_alike a b false ha hb (decide_eq_false h1) (decide_eq_false h2) w
    rw [res_eq (x := a + b) (by simp; omega)] at this
    exact this

/-- A difference. -/
theorem less_walk (a b : Int) (v : Value) (hb : (b == -9223372036854775808) = false) (n : Int) (hn : wrap64 (-b) = n) (HS : Ret 14 #[.int .i64 a, .int .i64 n] v) (x : Int) (y : Bool) (hv : v = .tuple #[.int .i64 x, .bool y]) (w : World) :
    Calls Try.prog 16 #[.int .i64 a, .int .i64 b] w fun e w' => e = .returned v ∧ Below w.heap.size w w' := by
  subst hv
  go_enter Try.func16, Try.ntmps16
  go_wp2_with (go_at_call 14; (with_reducible refine (HS.go _).mono ?_); rintro e w1 ⟨rfl, hb⟩)
  go_ret2
  exact ⟨rfl, hb⟩
theorem less_min_no (a : Int) (x : Int) (y : Bool) (_ : ¬ a < 0) (_ : decide (0 ≤ a) = true) (HS : Ret 14 #[.int .i64 a, .int .i64 4611686018427387904] (.tuple #[.int .i64 x, .bool y])) (w : World) :
    Calls Try.prog 16 #[.int .i64 a, .int .i64 (-9223372036854775808)] w fun e w' => e = .returned (.tuple #[.int .i64 0, .bool false]) ∧ Below w.heap.size w w' := by
  go_enter Try.func16, Try.ntmps16
  go_wp2_with (go_at_call 14; (with_reducible refine (HS.go _).mono ?_); rintro e w1 ⟨rfl, hb⟩)
  go_ret2
  exact ⟨rfl, hb⟩
theorem less_min_yes (a x z : Int) (y t : Bool) (ha2 : decide (0 ≤ a) = false) (_ : ¬ 0 ≤ a) (HS : Ret 14 #[.int .i64 a, .int .i64 4611686018427387904] (.tuple #[.int .i64 x, .bool y]))
    (HT : Ret 14 #[.int .i64 x, .int .i64 4611686018427387904] (.tuple #[.int .i64 z, .bool t])) (w : World) :
    Calls Try.prog 16 #[.int .i64 a, .int .i64 (-9223372036854775808)] w fun e w' => e = .returned (.tuple #[.int .i64 z, .bool t]) ∧ Below w.heap.size w w' := by
  go_enter Try.func16, Try.ntmps16
  go_wp2_with (first
    | (go_at_call 14; (with_reducible refine (HS.go _).mono ?_); rintro e w1 ⟨rfl, hb⟩; have HB := Lib.hid hb; clear hb)
    | (go_at_call 14; (with_reducible refine (HT.go _).mono ?_); rintro e w2 ⟨rfl, hb⟩; replace HB := Lib.hid (bTr' HB.out hb); clear hb))
  go_ret2
  exact ⟨rfl, HB.out⟩
theorem refLess_ret {a b : Int} (ha : In64 a) (hb : In64 b) : Ret 16 #[.int .i64 a, .int .i64 b] (SumRes (a - b)) := fun w => by
  by_cases hm : b = -9223372036854775808
  · subst hm
    have H1 := refSum_ret (a := a) (b := 4611686018427387904) ha ⟨by omega, by omega⟩
    unfold In64 at ha
    by_cases h0 : a < 0
    · have hin : In64 (a + 4611686018427387904) := ⟨by omega, by omega⟩
      have H2 := refSum_ret (a := a + 4611686018427387904) (b := 4611686018427387904) hin ⟨by omega, by omega⟩
      have e1 : SumRes (a + 4611686018427387904) = .tuple #[.int .i64 (a + 4611686018427387904), .bool true] := by unfold SumRes; rw [fitV_in hin, inB_of hin]
      rw [e1] at H1
      have := less_min_yes a _ _ _ _ (decide_eq_false (by omega)) (by omega) H1 H2 w
      rw [show a + 4611686018427387904 + 4611686018427387904 = a - -9223372036854775808 by omega] at this
      exact this
    · have e : SumRes (a - -9223372036854775808) = .tuple #[.int .i64 0, .bool false] := by
        unfold SumRes fitV
        cases h : InB (a - -9223372036854775808)
        · simp
        · have := inB_true h
          unfold In64 at this
          omega
      rw [e]
      exact less_min_no a _ _ h0 (decide_eq_true (by omega)) H1 w
  · unfold In64 at hb
    have hn : wrap64 (-b) = -b := by unfold wrap64; omega
    have H := refSum_ret (a := a) (b := -b) ha ⟨by omega, by omega⟩
    have e : SumRes (a + -b) = SumRes (a - b) := by rw [Int.sub_eq_add_neg]
    rw [e] at H
    exact less_walk a b _ (by rw [beq_eq_false_iff_ne]; exact hm) (-b) hn H _ _ rfl w

end Go.Proofs.Ytglmkjnhkjljpaa
