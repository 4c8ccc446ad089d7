/- The reference's product of two ints by a third one, rounded: it answers what package wide does. -/
import Derived.Test.YtffjbngelapmmaaRound
import Derived.Test.YtffjbngelapmmaaMd
namespace Go.Proofs.Ytffjbngelapmmaa
open Go.RowKit

theorem bTr' {w w1 w2 : World} (h : Below w.heap.size w w1) (k : Below w1.heap.size w1 w2) : Below w.heap.size w w2 := h.trans (k.mono h.size)

theorem rdM_goes (q l b : Nat) (minus : Bool) (round : Int) (_ : l < b) : rdM q l b minus round = goes (q : Int) (l : Int) (b : Int) minus round := by
  unfold rdM goes
  by_cases h0 : l = 0
  · rw [if_pos h0, if_pos (by omega)]
  · rw [if_neg h0, if_neg (show ¬ (l : Int) = 0 by omega)]
    by_cases h1 : round = 0
    · rw [if_pos h1, if_pos h1]
    · rw [if_neg h1, if_neg h1]
      by_cases h2 : round = 1
      · rw [if_pos h2, if_pos h2]
      · rw [if_neg h2, if_neg h2]
        rcases Nat.lt_trichotomy (l + l) b with h | h | h
        · rw [if_neg (by omega), decide_eq_false (show ¬ b < l + l by omega), decide_eq_false (show ¬ l + l = b by omega), decide_eq_false (show ¬ (b : Int) - l < l by omega)]; rfl
        · rw [if_pos (by omega), decide_eq_false (show ¬ b < l + l by omega), decide_eq_true h, Bool.false_or, Bool.true_and, decide_eq_decide]; omega
        · rw [if_neg (by omega), decide_eq_true h, decide_eq_true (show (b : Int) - l < l by omega)]; rfl

theorem int_any (v : Value) (Q : Nat) (minus : Bool) (w : World) (h : Num w v Q) (hQ : Q < 65536 ^ 9) :
    Calls Try.prog 49 #[v, .bool minus] w fun e w' => e = .returned (.tuple #[.int .i64 (if intOver Q minus = true then 0 else intVal Q minus), .bool (!intOver Q minus)]) ∧ Below w.heap.size w w' := by
  cases minus
  · rcases Nat.lt_or_ge 9223372036854775807 Q with hl | hl
    · have := int_over_false v Q 9 w h hQ (by omega) hl
      simpa [intOver, hl] using this
    · obtain ⟨b, o, c, ds, rfl, hc, hr, hd⟩ := h
      have := int_ok_false b o c ds Q w hd hc hr hl _ rfl
      have hl' : ¬ 9223372036854775807 < Q := by omega
      simpa [intOver, intVal, hl'] using this
  · rcases Nat.lt_or_ge 9223372036854775808 Q with hl | hl
    · have := int_over_true v Q 9 w h hQ (by omega) hl
      simpa [intOver, hl] using this
    · obtain ⟨b, o, c, ds, rfl, hc, hr, hd⟩ := h
      have := int_ok_true b o c ds Q w hd hc hr hl _ rfl
      have hl' : ¬ 9223372036854775808 < Q := by omega
      simpa [intOver, intVal, hl'] using this

theorem refmd_arg (a b c round : Int) (h : round < 0 ∨ 2 < round) (w : World) :
    Calls Try.prog 35 #[.int .i64 a, .int .i64 b, .int .i64 c, .int .i64 round] w fun e w' => e = .returned (.tuple #[.int .i64 0, .int .i64 1]) ∧ Below w.heap.size w w' := by
  rcases h with h | h
  all_goals
    go_enter Try.func35, Try.ntmps35
    go_wp2_with fail
    go_ret2
    exact ⟨rfl, bRef w⟩
theorem refmd_zero (a b round : Int) (h : 0 ≤ round ∧ round ≤ 2) (w : World) :
    Calls Try.prog 35 #[.int .i64 a, .int .i64 b, .int .i64 0, .int .i64 round] w fun e w' => e = .returned (.tuple #[.int .i64 0, .int .i64 11]) ∧ Below w.heap.size w w' := by
  obtain ⟨h1, h2⟩ := h
  go_enter Try.func35, Try.ntmps35
  go_wp2_with fail
  go_ret2
  exact ⟨rfl, bRef w⟩

set_option maxHeartbeats 4000000 in
theorem refmd_true (a b c round X : Int) (A B C Q : Nat) (minus mm : Bool) (h1 : 0 ≤ round) (h2 : round ≤ 2) (hc : (c == 0) = false) (hmin : neg a b c = minus) (la : A < 65536 ^ 4) (lb : B < 65536 ^ 4)
    (HSa : ∀ w, Calls Try.prog 48 #[.int .i64 a] w (NumPost w A)) (HSb : ∀ w, Calls Try.prog 48 #[.int .i64 b] w (NumPost w B)) (HSc : ∀ w, Calls Try.prog 48 #[.int .i64 c] w (NumPost w C))
    (HR : ∀ w va vb, Num w va (A * B) → Num w vb C → Calls Try.prog 46 #[va, vb, .bool minus, .int .i64 round] w (RoundPost w Q mm))
    (HI : ∀ w v, Num w v Q → Calls Try.prog 49 #[v, .bool mm] w fun e w' => e = .returned (.tuple #[.int .i64 X, .bool true]) ∧ Below w.heap.size w w') (w : World) :
    Calls Try.prog 35 #[.int .i64 a, .int .i64 b, .int .i64 c, .int .i64 round] w fun e w' => e = .returned (.tuple #[.int .i64 X, .int .i64 0]) ∧ Below w.heap.size w w' := by
  have HSa' := Lib.hid HSa
  have HSb' := Lib.hid HSb
  have HSc' := Lib.hid HSc
  have HR' := Lib.hid HR
  have HI' := Lib.hid HI
  clear HSa HSb HSc HR HI
  cases hA : decide (a < 0) <;> cases hB : decide (b < 0) <;> cases hC : decide (c < 0)
  all_goals
    unfold neg at hmin
    rw [hA, hB, hC] at hmin
    simp at hmin
    subst hmin
    go_enter Try.func35, Try.ntmps35
    go_wp2_with (first
      | (go_at_call 48; (with_reducible refine (HSa'.out _).mono ?_); rintro e w1 ⟨v1, rfl, hn1, hb1, hf1⟩; have HA := Lib.hid hn1; have B1 := Lib.hid hb1; clear hn1 hb1 hf1)
      | (go_at_call 48; (with_reducible refine (HSb'.out _).mono ?_); rintro e w2 ⟨v2, rfl, hn2, hb2, hf2⟩; have HB := Lib.hid hn2; have HA2 := Lib.hid (HA.out.below hb2); have B2 := Lib.hid (bTr' B1.out hb2); clear hn2 hb2 hf2)
      | (go_at_call 47; (with_reducible refine (mul_any HA2.out HB.out (L := 4) la lb (by omega)).mono ?_); rintro e w3 ⟨v3, rfl, hn3, hb3, hf3⟩; have HP := Lib.hid hn3; have B3 := Lib.hid (bTr' B2.out hb3); clear hn3 hb3 hf3)
      | (go_at_call 48; (with_reducible refine (HSc'.out _).mono ?_); rintro e w4 ⟨v4, rfl, hn4, hb4, hf4⟩; have HC := Lib.hid hn4; have HP4 := Lib.hid (HP.out.below hb4); have B4 := Lib.hid (bTr' B3.out hb4); clear hn4 hb4 hf4)
      | (go_at_call 46; (with_reducible refine (HR'.out _ _ _ HP4.out HC.out).mono ?_); rintro e w5 ⟨v5, rfl, hn5, hb5⟩; have HQ := Lib.hid hn5; have B5 := Lib.hid (bTr' B4.out hb5); clear hn5 hb5)
      | (go_at_call 49; (with_reducible refine (HI'.out _ _ HQ.out).mono ?_); rintro e w6 ⟨rfl, hb6⟩))
    go_ret2
    exact ⟨rfl, bTr' B5.out hb6⟩

set_option maxHeartbeats 4000000 in
theorem refmd_false (a b c round X : Int) (A B C Q : Nat) (minus mm : Bool) (h1 : 0 ≤ round) (h2 : round ≤ 2) (hc : (c == 0) = false) (hmin : neg a b c = minus) (la : A < 65536 ^ 4) (lb : B < 65536 ^ 4)
    (HSa : ∀ w, Calls Try.prog 48 #[.int .i64 a] w (NumPost w A)) (HSb : ∀ w, Calls Try.prog 48 #[.int .i64 b] w (NumPost w B)) (HSc : ∀ w, Calls Try.prog 48 #[.int .i64 c] w (NumPost w C))
    (HR : ∀ w va vb, Num w va (A * B) → Num w vb C → Calls Try.prog 46 #[va, vb, .bool minus, .int .i64 round] w (RoundPost w Q mm))
    (HI : ∀ w v, Num w v Q → Calls Try.prog 49 #[v, .bool mm] w fun e w' => e = .returned (.tuple #[.int .i64 X, .bool false]) ∧ Below w.heap.size w w') (w : World) :
    Calls Try.prog 35 #[.int .i64 a, .int .i64 b, .int .i64 c, .int .i64 round] w fun e w' => e = .returned (.tuple #[.int .i64 0, .int .i64 10]) ∧ Below w.heap.size w w' := by
  have HSa' := Lib.hid HSa
  have HSb' := Lib.hid HSb
  have HSc' := Lib.hid HSc
  have HR' := Lib.hid HR
  have HI' := Lib.hid HI
  clear HSa HSb HSc HR HI
  cases hA : decide (a < 0) <;> cases hB : decide (b < 0) <;> cases hC : decide (c < 0)
  all_goals
    unfold neg at hmin
    rw [hA, hB, hC] at hmin
    simp at hmin
    subst hmin
    go_enter Try.func35, Try.ntmps35
    go_wp2_with (first
      | (go_at_call 48; (with_reducible refine (HSa'.out _).mono ?_); rintro e w1 ⟨v1, rfl, hn1, hb1, hf1⟩; have HA := Lib.hid hn1; have B1 := Lib.hid hb1; clear hn1 hb1 hf1)
      | (go_at_call 48; (with_reducible refine (HSb'.out _).mono ?_); rintro e w2 ⟨v2, rfl, hn2, hb2, hf2⟩; have HB := Lib.hid hn2; have HA2 := Lib.hid (HA.out.below hb2); have B2 := Lib.hid (bTr' B1.out hb2); clear hn2 hb2 hf2)
      | (go_at_call 47; (with_reducible refine (mul_any HA2.out HB.out (L := 4) la lb (by omega)).mono ?_); rintro e w3 ⟨v3, rfl, hn3, hb3, hf3⟩; have HP := Lib.hid hn3; have B3 := Lib.hid (bTr' B2.out hb3); clear hn3 hb3 hf3)
      | (go_at_call 48; (with_reducible refine (HSc'.out _).mono ?_); rintro e w4 ⟨v4, rfl, hn4, hb4, hf4⟩; have HC := Lib.hid hn4; have HP4 := Lib.hid (HP.out.below hb4); have B4 := Lib.hid (bTr' B3.out hb4); clear hn4 hb4 hf4)
      | (go_at_call 46; (with_reducible refine (HR'.out _ _ _ HP4.out HC.out).mono ?_); rintro e w5 ⟨v5, rfl, hn5, hb5⟩; have HQ := Lib.hid hn5; have B5 := Lib.hid (bTr' B4.out hb5); clear hn5 hb5)
      | (go_at_call 49; (with_reducible refine (HI'.out _ _ HQ.out).mono ?_); rintro e w6 ⟨rfl, hb6⟩))
    go_ret2
    exact ⟨rfl, bTr' B5.out hb6⟩

theorem refmd_ret {a b c : Int} (round : Int) (ha : In64 a) (hb : In64 b) (hc : In64 c) :
    Ret 35 #[.int .i64 a, .int .i64 b, .int .i64 c, .int .i64 round] (.tuple #[.int .i64 (mdV a b c round), .int .i64 (mdE a b c round)]) := fun w => by
  by_cases hr : round < 0 ∨ 2 < round
  · have := refmd_arg a b c round hr w
    simpa [mdV, mdE, hr] using this
  have hr2 : 0 ≤ round ∧ round ≤ 2 := by omega
  by_cases hz : c = 0
  · subst hz
    have := refmd_zero a b round hr2 w
    simpa [mdV, mdE, hr] using this
  have hcz : (c == 0) = false := by rw [beq_eq_false_iff_ne]; exact hz
  have hd : 0 < c.natAbs := by omega
  have hn := mdN_le ha hb
  have hq : mdN a b / c.natAbs ≤ mdN a b := Nat.div_le_self _ _
  have hk := Nat.mod_lt (mdN a b) hd
  unfold In64 at ha hb hc
  have e : mdQ a b c round = mdN a b / c.natAbs + (if rdM (mdN a b / c.natAbs) (mdN a b % c.natAbs) c.natAbs (neg a b c) round = true then 1 else 0) := by
    unfold mdQ; rw [rdM_goes _ _ _ _ _ hk]
  have hQ : mdQ a b c round < 65536 ^ 9 := by
    rw [e]; split <;> omega
  have HR : ∀ w va vb, Num w va (a.natAbs * b.natAbs) → Num w vb c.natAbs → Calls Try.prog 46 #[va, vb, .bool (neg a b c), .int .i64 round] w (RoundPost w (mdQ a b c round) (neg a b c && decide (0 < mdQ a b c round))) := fun w va vb h1 h2 => by
    rw [e]
    exact round_any va vb (mdN a b) c.natAbs 9 w (neg a b c) round h1 h2 hd (by omega) (by omega) (by omega) hr2
  have HI := fun w v (h : Num w v (mdQ a b c round)) => int_any v (mdQ a b c round) (neg a b c && decide (0 < mdQ a b c round)) w h hQ
  have ho : intOver (mdQ a b c round) (neg a b c && decide (0 < mdQ a b c round)) = mdOver a b c round := by
    unfold intOver mdOver
    cases hneg : neg a b c
    · simp
    · by_cases h0 : 0 < mdQ a b c round
      · simp [h0]
      · have : mdQ a b c round = 0 := by omega
        simp [this]
  have hv : intVal (mdQ a b c round) (neg a b c && decide (0 < mdQ a b c round)) = if neg a b c = true then -(mdQ a b c round : Int) else (mdQ a b c round : Int) := by
    unfold intVal
    cases hneg : neg a b c
    · simp
    · by_cases h0 : 0 < mdQ a b c round
      · simp [h0]
      · have : mdQ a b c round = 0 := by omega
        simp [this]
  rw [ho, hv] at HI
  cases hov : mdOver a b c round
  · rw [hov] at HI
    have := refmd_true a b c round _ a.natAbs b.natAbs c.natAbs _ _ _ hr2.1 hr2.2 hcz rfl (by omega) (by omega) (fun w => abs_any a (by omega) (by omega) w) (fun w => abs_any b (by omega) (by omega) w) (fun w => abs_any c (by omega) (by omega) w) HR HI w
    simpa [mdV, mdE, hr, hz, hov] using this
  · rw [hov] at HI
    have := refmd_false a b c round _ a.natAbs b.natAbs c.natAbs _ _ _ hr2.1 hr2.2 hcz rfl (by omega) (by omega) (fun w => abs_any a (by omega) (by omega) w) (fun w => abs_any b (by omega) (by omega) w) (fun w => abs_any c (by omega) (by omega) w) HR HI w
    simpa [mdV, mdE, hr, hz, hov] using this

end Go.Proofs.Ytffjbngelapmmaa
