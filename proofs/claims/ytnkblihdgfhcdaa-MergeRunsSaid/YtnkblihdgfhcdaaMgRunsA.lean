/- MergeRuns where it answers at once: too many steps; a setup or a time that isn't right. -/
import Derived.Test.YtnkblihdgfhcdaaFMergeRuns
import Derived.Test.YtnkblihdgfhcdaaMgRight
import Derived.Test.YtnkblihdgfhcdaaSqEq
namespace Go.Proofs.Ytnkblihdgfhcdaa
open Go.RowKit Go.Joins

section
variable (ways w1 l1 r1 w2 l2 r2 every limit now : Int) (p : Option Addr) (n c : Nat) (w : World)
set_option maxRecDepth 20000 in
theorem mruns_many (h : 100 < n) :
    Calls Try.prog 9 #[MV ways w1 l1 r1 w2 l2 r2 every limit, .int .i64 now, .slice p n c] w fun e w' => e = .returned (.bool true) ∧ Below w.heap.size w w' := by
  have HH := Lib.hid mhead_ret
  have d : decide ((100 : Int) < (n : Int)) = true := decide_eq_true (by omega)
  clear h
  go_enter Try.func9, Try.ntmps9
  go_wp2_with (go_at_call 27; (with_reducible refine (HH.out _).mono ?_); rintro e x1 ⟨rfl, hb⟩; have HB := Lib.hid (bTr (bAl (bRef w) _) hb); clear hb)
  go_ret
  exact ⟨rfl, HB.out⟩
set_option maxRecDepth 20000 in
set_option maxHeartbeats 4000000 in
theorem mruns_bad (h : n ≤ 100)
    (HN : Hid (∀ W, Calls Try.prog 28 #[MV ways w1 l1 r1 w2 l2 r2 every limit, .int .i64 now] W fun e w' => e = .returned (.tuple #[.pointer none, .int .i64 1]) ∧ Below W.heap.size W w'))
    (x : Bool) (HR : Hid (∀ W, Calls Try.prog 29 #[MV ways w1 l1 r1 w2 l2 r2 every limit] W fun e w' => e = .returned (.bool x) ∧ Below W.heap.size W w'))
    (hx : x = false ∨ (x = true ∧ now < 0) ∨ (x = true ∧ ¬ now < 0 ∧ 1099511627776 < now)) :
    Calls Try.prog 9 #[MV ways w1 l1 r1 w2 l2 r2 every limit, .int .i64 now, .slice p n c] w fun e w' => e = .returned (.bool true) ∧ Below w.heap.size w w' := by
  have HH := Lib.hid mhead_ret
  have HI := Lib.hid (fun W => min_nil 0 0 0 W)
  have HL := Lib.hid (fun W => mlook_nil 1099511627776 W)
  have HS := Lib.hid (fun W => msilent_nil W)
  have HC := Lib.hid (fun W => mcounts_nil 0 W)
  have hq := fun W => run_eqC4 0 0 0 0 0 0 0 0 W true (by simp)
  have d : decide ((100 : Int) < (n : Int)) = false := decide_eq_false (by omega)
  have K0 := Lib.hid (MB.new w ways w1 l1 r1 w2 l2 r2 every limit)
  clear h
  rcases hx with rfl | ⟨rfl, h1⟩ | ⟨rfl, h1, h2⟩
  case' inr.inl => have d1 : decide (now < 0) = true := decide_eq_true h1
  case' inr.inl => clear h1
  case' inr.inr => have d1 : decide (now < 0) = false := decide_eq_false h1
  case' inr.inr => have d2 : decide (1099511627776 < now) = true := decide_eq_true h2
  case' inr.inr => clear h1 h2
  all_goals
    go_enter Try.func9, Try.ntmps9
    go_wp2_with (first
      | (go_at_call 27; (with_reducible refine (HH.out _).mono ?_); rintro e x1 ⟨rfl, hb⟩; have HB1 := Lib.hid (bTr (bAl (bRef w) _) hb); have K1 := Lib.hid (K0.out.below hb); obtain ⟨k0, k1, k2, k3, k4, k5, k6, k7, k8⟩ := K1.out.cells; clear hb)
      | (go_at_call 28; (with_reducible refine (HN.out _).mono ?_); rintro e x2 ⟨rfl, hb⟩; have HB2 := Lib.hid (bTr HB1.out hb); have K2 := Lib.hid (K1.out.below hb); obtain ⟨j0, j1, j2, j3, j4, j5, j6, j7, j8⟩ := K2.out.cells; clear hb)
      | (go_at_call 29; (with_reducible refine (HR.out _).mono ?_); rintro e x3 ⟨rfl, hb⟩; have HB3 := Lib.hid (bTr HB2.out hb); clear hb)
      | (go_at_call 30; (with_reducible refine (HI.out _).mono ?_); rintro e x4 ⟨rfl, rfl⟩)
      | (go_at_call 31; (with_reducible refine (HL.out _).mono ?_); rintro e x5 ⟨rfl, hb⟩; have HB5 := Lib.hid (bTr HB3.out hb); clear hb)
      | (go_at_call 32; (with_reducible refine (HS.out _).mono ?_); rintro e x6 ⟨rfl, rfl⟩)
      | (go_at_call 33; (with_reducible refine (HC.out _).mono ?_); rintro e x7 ⟨rfl, hb⟩; have HB7 := Lib.hid (bTr HB5.out hb); clear hb))
    go_ret
    exact ⟨rfl, HB7.out⟩
theorem mruns_not (h : n ≤ 100) (ho : ¬ (okM ways w1 l1 r1 w2 l2 r2 every limit ∧ 0 ≤ now ∧ now ≤ 1099511627776)) :
    Calls Try.prog 9 #[MV ways w1 l1 r1 w2 l2 r2 every limit, .int .i64 now, .slice p n c] w fun e w' => e = .returned (.bool true) ∧ Below w.heap.size w w' := by
  by_cases h1 : okM ways w1 l1 r1 w2 l2 r2 every limit
  · have hn : now < 0 ∨ 1099511627776 < now := by
      rcases Int.lt_or_le now 0 with h2 | h2
      · exact .inl h2
      · rcases Int.lt_or_le 1099511627776 now with h3 | h3
        · exact .inr h3
        · exact absurd ⟨h1, h2, h3⟩ ho
    refine mruns_bad ways w1 l1 r1 w2 l2 r2 every limit now p n c w h (Lib.hid fun W => mnew_time ways w1 l1 r1 w2 l2 r2 every limit now W h1 hn) true (Lib.hid fun W => mright_yes ways w1 l1 r1 w2 l2 r2 every limit W h1) ?_
    by_cases h2 : now < 0
    · exact .inr (.inl ⟨rfl, h2⟩)
    · exact .inr (.inr ⟨rfl, h2, by omega⟩)
  · exact mruns_bad ways w1 l1 r1 w2 l2 r2 every limit now p n c w h (Lib.hid fun W => mnew_no ways w1 l1 r1 w2 l2 r2 every limit now W h1) false (Lib.hid fun W => mright_no ways w1 l1 r1 w2 l2 r2 every limit W h1) (.inl rfl)
end
end Go.Proofs.Ytnkblihdgfhcdaa
