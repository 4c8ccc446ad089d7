/- The document's examples of package gates. -/
import Derived.Test.YtpdfgdjomlogbaaGtApi
namespace Go.Proofs.Ytpdfgdjomlogbaa
open Go.RowKit Go.Joins

def exL : List (Int × Int) := [(1, 3), (2, 4)]
theorem ex_arg {w : World} {g : Nat} {fr : Nat × Nat} {t : TypeId} (h : w.heap[g]? = some (.cells #[.int .i64 1, .int .i64 3, .int .i64 2, .int .i64 4] t fr)) : TArg w (.slice (some ⟨g, 0, none⟩) 2 2) exL := by
  refine ⟨fun k hk => ?_, .inr ⟨by decide, g, 0, 2, rfl, by decide, lt_of_heap h, fun k hk => ?_⟩⟩
  · have : k = 0 ∨ k = 1 := by simp [exL] at hk; omega
    rcases this with rfl | rfl <;> exact ⟨⟨by decide, by decide⟩, ⟨by decide, by decide⟩⟩
  · have : k = 0 ∨ k = 1 := by simp [exL] at hk; omega
    rcases this with rfl | rfl <;> exact ⟨cell_of_row _ _ _ _ _ _ h, cell_of_row _ _ _ _ _ _ h⟩
theorem two_ret (w : World) : Calls Try.prog 28 #[] w fun e w' => (∃ sl, e = .returned (LV 0 10 sl) ∧ TArg w' sl exL) ∧ Below w.heap.size w w' := by
  go_enter Try.func28, Try.ntmps28
  go_wp2_with fail
  refine bodyPost_ret (results_cell_row rfl _ _ w.heap.size 24 _ (0, 0) _ rfl (heap_alloc2_old w _ _) Try.underlying24 rfl (by kernel_rfl)) rfl ?_
  exact ⟨⟨_, rfl, ex_arg (heap_alloc2_new w _ _)⟩, bAl (bAl (bRef w) _) _⟩
theorem ex_12 : stateV 0 10 exL 12 = 1 := by kernel_rfl
theorem ex_13 : stateV 0 10 exL 13 = 2 := by kernel_rfl
theorem ex_left : leftV 0 10 exL 14 1 = 6 := by kernel_rfl
theorem ex_next : nextV 0 10 exL 4 0 = (6, true) := by kernel_rfl
theorem ex_turn : turnV 0 10 exL 11 = (20, true) := by kernel_rfl
theorem state_head (w : World) : Calls Try.prog 10 #[] w fun e w' => e = .returned (.bool true) ∧ Below w.heap.size w w' := by
  have HT := Lib.hid two_ret
  have H1 : Hid (∀ W sl, TArg W sl exL → Calls Try.prog 14 #[LV 0 10 sl, .int .i64 12] W fun e w' => e = .returned (.int .i64 1) ∧ Below W.heap.size W w') := Lib.hid (fun W sl h => by have k := state_any 0 10 sl exL 12 W h; rw [ex_12] at k; exact k)
  have H2 : Hid (∀ W sl, TArg W sl exL → Calls Try.prog 14 #[LV 0 10 sl, .int .i64 13] W fun e w' => e = .returned (.int .i64 2) ∧ Below W.heap.size W w') := Lib.hid (fun W sl h => by have k := state_any 0 10 sl exL 13 W h; rw [ex_13] at k; exact k)
  go_enter Try.func10, Try.ntmps10
  go_wp2_with (first
    | (go_at_call 28; (first | (have p := HB2; (with_reducible refine (HT.out _).mono ?_); rintro e w3 ⟨⟨sl3, rfl, ha⟩, hb⟩; have HA3 := Lib.hid ha; have HB3 := Lib.hid (bTr HB2.out hb); clear ha hb p) | ((with_reducible refine (HT.out _).mono ?_); rintro e w1 ⟨⟨sl1, rfl, ha⟩, hb⟩; have HA1 := Lib.hid ha; have HB1 := Lib.hid hb; clear ha hb)))
    | (go_at_call 14; (with_reducible refine (H1.out _ _ HA1.out).mono ?_); rintro e w2 ⟨rfl, hb⟩; have HB2 := Lib.hid (bTr HB1.out hb); clear hb)
    | (go_at_call 14; (with_reducible refine (H2.out _ _ HA3.out).mono ?_); rintro e w4 ⟨rfl, hb⟩; have HB4 := Lib.hid (bTr HB3.out hb); clear hb))
  go_ret
  exact ⟨rfl, HB4.out⟩
theorem left_head (w : World) : Calls Try.prog 17 #[] w fun e w' => e = .returned (.bool true) ∧ Below w.heap.size w w' := by
  have HT := Lib.hid two_ret
  have H1 : Hid (∀ W sl, TArg W sl exL → Calls Try.prog 18 #[LV 0 10 sl, .int .i64 14, .int .i64 1] W fun e w' => e = .returned (.int .i64 6) ∧ Below W.heap.size W w') := Lib.hid (fun W sl h => by have k := left_any 0 10 sl exL 14 W 1 h; rw [ex_left] at k; exact k)
  go_enter Try.func17, Try.ntmps17
  go_wp2_with (first
    | (go_at_call 28; (with_reducible refine (HT.out _).mono ?_); rintro e w1 ⟨⟨sl1, rfl, ha⟩, hb⟩; have HA1 := Lib.hid ha; have HB1 := Lib.hid hb; clear ha hb)
    | (go_at_call 18; (with_reducible refine (H1.out _ _ HA1.out).mono ?_); rintro e w2 ⟨rfl, hb⟩; have HB2 := Lib.hid (bTr HB1.out hb); clear hb))
  go_ret
  exact ⟨rfl, HB2.out⟩
theorem next_head (w : World) : Calls Try.prog 20 #[] w fun e w' => e = .returned (.bool true) ∧ Below w.heap.size w w' := by
  have HT := Lib.hid two_ret
  have H1 : Hid (∀ W sl, TArg W sl exL → Calls Try.prog 21 #[LV 0 10 sl, .int .i64 4, .int .i64 0] W fun e w' => e = .returned (.tuple #[.int .i64 6, .bool true]) ∧ Below W.heap.size W w') := Lib.hid (fun W sl h => by have k := next_any 0 10 sl exL 4 W 0 h; rw [ex_next] at k; exact k)
  go_enter Try.func20, Try.ntmps20
  go_wp2_with (first
    | (go_at_call 28; (with_reducible refine (HT.out _).mono ?_); rintro e w1 ⟨⟨sl1, rfl, ha⟩, hb⟩; have HA1 := Lib.hid ha; have HB1 := Lib.hid hb; clear ha hb)
    | (go_at_call 21; (with_reducible refine (H1.out _ _ HA1.out).mono ?_); rintro e w2 ⟨rfl, hb⟩; have HB2 := Lib.hid (bTr HB1.out hb); clear hb))
  go_ret
  exact ⟨rfl, HB2.out⟩
theorem turns_head (w : World) : Calls Try.prog 22 #[] w fun e w' => e = .returned (.bool true) ∧ Below w.heap.size w w' := by
  have HT := Lib.hid two_ret
  have H1 : Hid (∀ W sl, TArg W sl exL → Calls Try.prog 23 #[LV 0 10 sl, .int .i64 11] W fun e w' => e = .returned (.tuple #[.int .i64 20, .bool true]) ∧ Below W.heap.size W w') := Lib.hid (fun W sl h => by have k := turn_any 0 10 sl exL 11 W h; rw [ex_turn] at k; exact k)
  go_enter Try.func22, Try.ntmps22
  go_wp2_with (first
    | (go_at_call 28; (with_reducible refine (HT.out _).mono ?_); rintro e w1 ⟨⟨sl1, rfl, ha⟩, hb⟩; have HA1 := Lib.hid ha; have HB1 := Lib.hid hb; clear ha hb)
    | (go_at_call 23; (with_reducible refine (H1.out _ _ HA1.out).mono ?_); rintro e w2 ⟨rfl, hb⟩; have HB2 := Lib.hid (bTr HB1.out hb); clear hb))
  go_ret
  exact ⟨rfl, HB2.out⟩

end Go.Proofs.Ytpdfgdjomlogbaa
