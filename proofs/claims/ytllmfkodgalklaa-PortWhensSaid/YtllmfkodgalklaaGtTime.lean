/- Package gates: which times a list tells of; how far in its cycle a time is; its slot. -/
import Derived.Test.YtllmfkodgalklaaGtCheck
namespace Go.Proofs.Ytllmfkodgalklaa
open Go.RowKit Go.Joins

def inT (x : Int) : Prop := -1099511627776 ≤ x ∧ x ≤ 2199023255552
instance (x : Int) : Decidable (inT x) := by unfold inT; infer_instance
def Tells (b c : Int) (ts : List (Int × Int)) (x : Int) : Prop := inT x ∧ chkV b c ts = 0
instance (b c : Int) (ts : List (Int × Int)) (x : Int) : Decidable (Tells b c ts x) := by unfold Tells; infer_instance
theorem tells_any (b c : Int) (sl : Value) (ts : List (Int × Int)) (x : Int) (w : World) (h : TArg w sl ts) :
    Calls Try.prog 48 #[LV b c sl, .int .i64 x] w fun e w' => e = .returned (.bool (decide (Tells b c ts x))) ∧ Below w.heap.size w w' := by
  by_cases h1 : -1099511627776 ≤ x
  · have d1 : decide (-1099511627776 ≤ x) = true := decide_eq_true h1
    by_cases h2 : x ≤ 2199023255552
    · have d2 : decide (x ≤ 2199023255552) = true := decide_eq_true h2
      have HC := Lib.hid (check_any b c sl ts)
      by_cases h3 : chkV b c ts = 0
      · rw [decide_eq_true (show Tells b c ts x from ⟨⟨h1, h2⟩, h3⟩)]
        rw [h3] at HC
        have HA := Lib.hid (h.below (bAl (bRef w) (.cells #[.int .i64 b, .int .i64 c, sl] 24)))
        clear h1 h2 h3 h
        go_enter Try.func48, Try.ntmps48
        go_wp2_with (go_at_call 10; (with_reducible refine (HC.out _ HA.out).mono ?_); rintro e w1 ⟨rfl, hb⟩; have HB := Lib.hid (bTr (bAl (bRef w) (.cells #[.int .i64 b, .int .i64 c, sl] 24)) hb); clear hb)
        go_ret
        exact ⟨rfl, HB.out⟩
      · rw [decide_eq_false (show ¬ Tells b c ts x from fun k => h3 k.2)]
        have h4 : (chkV b c ts == 0) = false := by rw [beq_eq_false_iff_ne]; exact h3
        generalize chkV b c ts = z at *
        have HA := Lib.hid (h.below (bAl (bRef w) (.cells #[.int .i64 b, .int .i64 c, sl] 24)))
        clear h1 h2 h3 h
        go_enter Try.func48, Try.ntmps48
        go_wp2_with (go_at_call 10; (with_reducible refine (HC.out _ HA.out).mono ?_); rintro e w1 ⟨rfl, hb⟩; have HB := Lib.hid (bTr (bAl (bRef w) (.cells #[.int .i64 b, .int .i64 c, sl] 24)) hb); clear hb)
        go_ret
        exact ⟨rfl, HB.out⟩
    · have d2 : decide (x ≤ 2199023255552) = false := decide_eq_false h2
      rw [decide_eq_false (show ¬ Tells b c ts x from fun k => h2 k.1.2)]
      clear h1 h2 h
      go_enter Try.func48, Try.ntmps48
      go_wp2_with fail
      go_ret
      exact ⟨rfl, bAl (bRef w) _⟩
  · have d1 : decide (-1099511627776 ≤ x) = false := decide_eq_false h1
    rw [decide_eq_false (show ¬ Tells b c ts x from fun k => h1 k.1.1)]
    clear h1 h
    go_enter Try.func48, Try.ntmps48
    go_wp2_with fail
    go_ret
    exact ⟨rfl, bAl (bRef w) _⟩

theorem gone_any (b c : Int) (sl : Value) (x : Int) (hb0 : 0 ≤ b) (hb1 : b ≤ 1099511627776) (hc : long c) (hx : inT x) : Ret 57 #[LV b c sl, .int .i64 x] (.int .i64 (gone b c x)) := fun w => by
  have hx1 := hx.1
  have hx2 := hx.2
  have hc1 := hc.1
  have hc2 := hc.2
  obtain ⟨d, hd⟩ : ∃ d, x - b = d := ⟨_, rfl⟩
  have w1 : wrap64 (x - b) = d := by unfold wrap64; omega
  have w2 : (c == 0) = false := by rw [beq_eq_false_iff_ne]; omega
  have w22 : ¬ c = 0 := by omega
  have ht := Int.tmod_eq_emod (a := d) (b := c)
  have hm0 := Int.emod_nonneg d (show c ≠ 0 by omega)
  have hm1 := Int.emod_lt_of_pos d (show 0 < c by omega)
  have hgo : gone b c x = d % c := by unfold gone; rw [hd]
  obtain ⟨m, hm⟩ : ∃ m, d % c = m := ⟨_, rfl⟩
  obtain ⟨t, hT⟩ : ∃ t, d.tmod c = t := ⟨_, rfl⟩
  rw [hgo]
  rw [hm] at hm0 hm1 ht ⊢
  rw [hT] at ht
  have hna : (c.natAbs : Int) = c := by omega
  have w3 : wrap64 t = t := by unfold wrap64; split at ht <;> omega
  have HB := Lib.hid (bAl (bRef w) (.cells #[.int .i64 b, .int .i64 c, sl] 24))
  by_cases hn : t < 0
  · have e1 : decide (t < 0) = true := decide_eq_true hn
    have w4 : wrap64 (t + c) = m := by unfold wrap64; split at ht <;> omega
    have HM := Lib.hid w4
    clear hx1 hx2 hc1 hc2 hd ht hm0 hm1 hgo hm hna hb0 hb1 hc hx hn
    go_enter Try.func57, Try.ntmps57
    go_wp2_with fail
    go_ret
    exact ⟨by first | rfl | (rw [w4]; rfl) | (show Ending.returned (Value.int .i64 _) = _; rw [w4]), HB.out⟩
  · have e1 : decide (t < 0) = false := decide_eq_false hn
    have w4 : t = m := by split at ht <;> omega
    have HM := Lib.hid w4
    clear hx1 hx2 hc1 hc2 hd ht hm0 hm1 hgo hm hna hb0 hb1 hc hx hn w4
    go_enter Try.func57, Try.ntmps57
    go_wp2_with fail
    go_ret
    exact ⟨by rw [← HM.out]; rfl, HB.out⟩

end Go.Proofs.Ytllmfkodgalklaa
