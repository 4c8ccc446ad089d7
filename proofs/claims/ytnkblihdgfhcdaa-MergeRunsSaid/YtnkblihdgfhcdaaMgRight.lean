/- MergeRuns' own right. -/
import Derived.Test.YtnkblihdgfhcdaaMgHead
import Derived.Test.YtnkblihdgfhcdaaSqRef1
namespace Go.Proofs.Ytnkblihdgfhcdaa
open Go.RowKit Go.Joins

set_option maxHeartbeats 1000000 in
theorem mright_yes (ways w1 l1 r1 w2 l2 r2 every limit : Int) (w : World) (h : okM ways w1 l1 r1 w2 l2 r2 every limit) : Calls Try.prog 29 #[MV ways w1 l1 r1 w2 l2 r2 every limit] w fun e w' => e = .returned (.bool true) ∧ Below w.heap.size w w' := by
  obtain ⟨⟨a1, a2⟩, ⟨a3, a4⟩, ⟨a5, a6⟩, o1, o2⟩ := h
  have d0 : decide (1 ≤ ways) = true := decide_eq_true a1
  have d1 : decide (ways ≤ 8) = true := decide_eq_true a2
  have d2 : decide (1 ≤ every) = true := decide_eq_true a3
  have d3 : decide (every ≤ 1099511627776) = true := decide_eq_true a4
  have d4 : decide (0 ≤ limit) = true := decide_eq_true a5
  have d5 : decide (limit ≤ 1073741824) = true := decide_eq_true a6
  have H1 := Lib.hid (fun W => right_ret w1 l1 r1 W)
  have H2 := Lib.hid (fun W => right_ret w2 l2 r2 W)
  rw [decide_eq_true o1] at H1
  rw [decide_eq_true o2] at H2
  clear a1 a2 a3 a4 a5 a6 o1 o2
  go_enter Try.func29, Try.ntmps29
  go_wp2_with (first
    | (go_at_call 15; (with_reducible refine (H1.out _).mono ?_); rintro e x0 ⟨rfl, rfl⟩)
    | (go_at_call 15; (with_reducible refine (H2.out _).mono ?_); rintro e x1 ⟨rfl, rfl⟩))
  go_ret
  exact ⟨rfl, bAl (bRef w) _⟩
set_option maxHeartbeats 1000000 in
theorem mright_no (ways w1 l1 r1 w2 l2 r2 every limit : Int) (w : World) (h : ¬ okM ways w1 l1 r1 w2 l2 r2 every limit) : Calls Try.prog 29 #[MV ways w1 l1 r1 w2 l2 r2 every limit] w fun e w' => e = .returned (.bool false) ∧ Below w.heap.size w w' := by
  by_cases c0 : 1 ≤ ways
  case neg =>
    have d0 : decide (1 ≤ ways) = false := decide_eq_false c0
    clear h c0
    go_enter Try.func29, Try.ntmps29
    go_wp2_with fail
    go_ret
    exact ⟨rfl, bAl (bRef w) _⟩
  have d0 : decide (1 ≤ ways) = true := decide_eq_true c0
  by_cases c1 : ways ≤ 8
  case neg =>
    have d1 : decide (ways ≤ 8) = false := decide_eq_false c1
    clear h c1
    go_enter Try.func29, Try.ntmps29
    go_wp2_with fail
    go_ret
    exact ⟨rfl, bAl (bRef w) _⟩
  have d1 : decide (ways ≤ 8) = true := decide_eq_true c1
  by_cases c2 : 1 ≤ every
  case neg =>
    have d2 : decide (1 ≤ every) = false := decide_eq_false c2
    clear h c2
    go_enter Try.func29, Try.ntmps29
    go_wp2_with fail
    go_ret
    exact ⟨rfl, bAl (bRef w) _⟩
  have d2 : decide (1 ≤ every) = true := decide_eq_true c2
  by_cases c3 : every ≤ 1099511627776
  case neg =>
    have d3 : decide (every ≤ 1099511627776) = false := decide_eq_false c3
    clear h c3
    go_enter Try.func29, Try.ntmps29
    go_wp2_with fail
    go_ret
    exact ⟨rfl, bAl (bRef w) _⟩
  have d3 : decide (every ≤ 1099511627776) = true := decide_eq_true c3
  by_cases c4 : 0 ≤ limit
  case neg =>
    have d4 : decide (0 ≤ limit) = false := decide_eq_false c4
    clear h c4
    go_enter Try.func29, Try.ntmps29
    go_wp2_with fail
    go_ret
    exact ⟨rfl, bAl (bRef w) _⟩
  have d4 : decide (0 ≤ limit) = true := decide_eq_true c4
  by_cases c5 : limit ≤ 1073741824
  case neg =>
    have d5 : decide (limit ≤ 1073741824) = false := decide_eq_false c5
    clear h c5
    go_enter Try.func29, Try.ntmps29
    go_wp2_with fail
    go_ret
    exact ⟨rfl, bAl (bRef w) _⟩
  have d5 : decide (limit ≤ 1073741824) = true := decide_eq_true c5
  by_cases o1 : okQ w1 l1 r1
  case neg =>
    have H1 := Lib.hid (fun W => right_ret w1 l1 r1 W)
    rw [decide_eq_false o1] at H1
    clear h c0 c1 c2 c3 c4 c5 o1
    go_enter Try.func29, Try.ntmps29
    go_wp2_with (go_at_call 15; (with_reducible refine (H1.out _).mono ?_); rintro e x0 ⟨rfl, rfl⟩)
    go_ret
    exact ⟨rfl, bAl (bRef w) _⟩
  by_cases o2 : okQ w2 l2 r2
  case neg =>
    have H1 := Lib.hid (fun W => right_ret w1 l1 r1 W)
    have H2 := Lib.hid (fun W => right_ret w2 l2 r2 W)
    rw [decide_eq_true o1] at H1
    rw [decide_eq_false o2] at H2
    clear h c0 c1 c2 c3 c4 c5 o1 o2
    go_enter Try.func29, Try.ntmps29
    go_wp2_with (first
      | (go_at_call 15; (with_reducible refine (H1.out _).mono ?_); rintro e x0 ⟨rfl, rfl⟩)
      | (go_at_call 15; (with_reducible refine (H2.out _).mono ?_); rintro e x1 ⟨rfl, rfl⟩))
    go_ret
    exact ⟨rfl, bAl (bRef w) _⟩
  exact absurd ⟨⟨c0, c1⟩, ⟨c2, c3⟩, ⟨c4, c5⟩, o1, o2⟩ h
end Go.Proofs.Ytnkblihdgfhcdaa
