/- Package sieve: isRight. -/
import Derived.Test.YtpdfgdjomlogbabSvFits
namespace Go.Proofs.Ytpdfgdjomlogbab
open Go.RowKit Go.Joins

def Right (x : Sm) (g m : Int) : Prop := (-1 ≤ x.port ∧ x.port ≤ 7) ∧ (1 ≤ x.vid ∧ x.vid ≤ 4094) ∧ (-1 ≤ x.gate ∧ x.gate ≤ g - 1) ∧ (-1 ≤ x.prio ∧ x.prio ≤ 7) ∧ (0 ≤ x.max ∧ x.max ≤ 1600) ∧ (-1 ≤ x.rate ∧ x.rate ≤ m - 1)
instance (x : Sm) (g m : Int) : Decidable (Right x g m) := by unfold Right; infer_instance
set_option maxHeartbeats 1000000 in
theorem isRight_any (x : Sm) (g m : Int) (w : World) (hg : 0 ≤ g ∧ g ≤ 1000) (hm : 0 ≤ m ∧ m ≤ 1000) : Calls Try.prog 14 #[.agg (SA x), .int .i64 g, .int .i64 m] w fun e w' => e = .returned (.bool (decide (Right x g m))) ∧ Below w.heap.size w w' := by
  have HB := Lib.hid (bAl (bRef w) (.cells (SA x) 28))
  have s0 := SA_0 x
  have s1 := SA_1 x
  have s9 := SA_9 x
  have s10 := SA_10 x
  have s11 := SA_11 x
  have s13 := SA_13 x
  have w1 : wrap64 (g - 1) = g - 1 := by unfold wrap64; omega
  have w2 : wrap64 (m - 1) = m - 1 := by unfold wrap64; omega
  obtain ⟨r, hr⟩ : ∃ r, decide (Right x g m) = r := ⟨_, rfl⟩
  rw [hr]
  have HR := Lib.hid hr
  clear hr hg hm
  by_cases e0 : -1 ≤ x.port ∧ x.port ≤ 7
  · have d0 : decide (-1 ≤ x.port ∧ x.port ≤ 7) = true := decide_eq_true e0
    by_cases e1 : 1 ≤ x.vid ∧ x.vid ≤ 4094
    · have d1 : decide (1 ≤ x.vid ∧ x.vid ≤ 4094) = true := decide_eq_true e1
      by_cases e2 : -1 ≤ x.gate ∧ x.gate ≤ g - 1
      · have d2 : decide (-1 ≤ x.gate ∧ x.gate ≤ g - 1) = true := decide_eq_true e2
        by_cases e3 : -1 ≤ x.prio ∧ x.prio ≤ 7
        · have d3 : decide (-1 ≤ x.prio ∧ x.prio ≤ 7) = true := decide_eq_true e3
          by_cases e4 : 0 ≤ x.max ∧ x.max ≤ 1600
          · have d4 : decide (0 ≤ x.max ∧ x.max ≤ 1600) = true := decide_eq_true e4
            by_cases e5 : -1 ≤ x.rate ∧ x.rate ≤ m - 1
            · have d5 : decide (-1 ≤ x.rate ∧ x.rate ≤ m - 1) = true := decide_eq_true e5
              have HE : Hid (true = r) := Lib.hid (by rw [← HR.out]; exact (decide_eq_true ⟨e0, e1, e2, e3, e4, e5⟩).symm)
              clear HR e0 e1 e2 e3 e4 e5
              go_enter Try.func14, Try.ntmps14
              go_wp2_with (go_at_call 25; (with_reducible refine ((within_any _ _ _).go _).mono ?_); rintro e w5 ⟨rfl, rfl⟩)
              go_ret
              exact ⟨by rw [← HE.out]; rfl, HB.out⟩
            · have d5 : decide (-1 ≤ x.rate ∧ x.rate ≤ m - 1) = false := decide_eq_false e5
              have HE : Hid (false = r) := Lib.hid (by rw [← HR.out]; exact (decide_eq_false (fun k => e5 k.2.2.2.2.2)).symm)
              clear HR e0 e1 e2 e3 e4 e5
              go_enter Try.func14, Try.ntmps14
              go_wp2_with (go_at_call 25; (with_reducible refine ((within_any _ _ _).go _).mono ?_); rintro e w5 ⟨rfl, rfl⟩)
              go_ret
              exact ⟨by rw [← HE.out]; rfl, HB.out⟩
          · have d4 : decide (0 ≤ x.max ∧ x.max ≤ 1600) = false := decide_eq_false e4
            have HE : Hid (false = r) := Lib.hid (by rw [← HR.out]; exact (decide_eq_false (fun k => e4 k.2.2.2.2.1)).symm)
            clear HR e0 e1 e2 e3 e4
            go_enter Try.func14, Try.ntmps14
            go_wp2_with (go_at_call 25; (with_reducible refine ((within_any _ _ _).go _).mono ?_); rintro e w5 ⟨rfl, rfl⟩)
            go_ret
            exact ⟨by rw [← HE.out]; rfl, HB.out⟩
        · have d3 : decide (-1 ≤ x.prio ∧ x.prio ≤ 7) = false := decide_eq_false e3
          have HE : Hid (false = r) := Lib.hid (by rw [← HR.out]; exact (decide_eq_false (fun k => e3 k.2.2.2.1)).symm)
          clear HR e0 e1 e2 e3
          go_enter Try.func14, Try.ntmps14
          go_wp2_with (go_at_call 25; (with_reducible refine ((within_any _ _ _).go _).mono ?_); rintro e w5 ⟨rfl, rfl⟩)
          go_ret
          exact ⟨by rw [← HE.out]; rfl, HB.out⟩
      · have d2 : decide (-1 ≤ x.gate ∧ x.gate ≤ g - 1) = false := decide_eq_false e2
        have HE : Hid (false = r) := Lib.hid (by rw [← HR.out]; exact (decide_eq_false (fun k => e2 k.2.2.1)).symm)
        clear HR e0 e1 e2
        go_enter Try.func14, Try.ntmps14
        go_wp2_with (go_at_call 25; (with_reducible refine ((within_any _ _ _).go _).mono ?_); rintro e w5 ⟨rfl, rfl⟩)
        go_ret
        exact ⟨by rw [← HE.out]; rfl, HB.out⟩
    · have d1 : decide (1 ≤ x.vid ∧ x.vid ≤ 4094) = false := decide_eq_false e1
      have HE : Hid (false = r) := Lib.hid (by rw [← HR.out]; exact (decide_eq_false (fun k => e1 k.2.1)).symm)
      clear HR e0 e1
      go_enter Try.func14, Try.ntmps14
      go_wp2_with (go_at_call 25; (with_reducible refine ((within_any _ _ _).go _).mono ?_); rintro e w5 ⟨rfl, rfl⟩)
      go_ret
      exact ⟨by rw [← HE.out]; rfl, HB.out⟩
  · have d0 : decide (-1 ≤ x.port ∧ x.port ≤ 7) = false := decide_eq_false e0
    have HE : Hid (false = r) := Lib.hid (by rw [← HR.out]; exact (decide_eq_false (fun k => e0 k.1)).symm)
    clear HR e0
    go_enter Try.func14, Try.ntmps14
    go_wp2_with (go_at_call 25; (with_reducible refine ((within_any _ _ _).go _).mono ?_); rintro e w5 ⟨rfl, rfl⟩)
    go_ret
    exact ⟨by rw [← HE.out]; rfl, HB.out⟩

end Go.Proofs.Ytpdfgdjomlogbab
