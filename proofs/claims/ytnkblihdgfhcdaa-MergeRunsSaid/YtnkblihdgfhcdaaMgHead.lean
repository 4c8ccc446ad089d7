/- The document's example of package merge. -/
import Derived.Test.YtnkblihdgfhcdaaMgMake
namespace Go.Proofs.Ytnkblihdgfhcdaa
open Go.RowKit Go.Joins

set_option maxHeartbeats 1000000 in
theorem plain_ret (limit : Int) (w : World) : Calls Try.prog 34 #[.int .i64 limit] w fun e w' => e = .returned (MV 2 0 16 1099511627776 0 16 1099511627776 10 limit) ∧ Below w.heap.size w w' := by
  go_enter Try.func34, Try.ntmps34
  go_wp2_with fail
  exact bodyPost_ret (results_cell_row rfl _ _ w.heap.size 59 _ (0, 0) _ rfl (((bAl (bRef (w.alloc _)) _).block w.heap.size (by simp)).trans (heap_alloc_one' w _)) Try.underlying59 rfl (by kernel_rfl)) rfl ⟨rfl, bAl (bAl (bRef w) _) _⟩
def P0 (limit : Int) : MG := M0 2 10 limit 0 (Q0 0 16 1099511627776 0) (Q0 0 16 1099511627776 0)
theorem P0_good (limit : Int) : (P0 limit).Good := M0_good (by decide) (by decide) (Q0_good (by decide) (by decide) (by decide)) (Q0_good (by decide) (by decide) (by decide))
theorem hm1 : decide ((P0 1).told 1 0 0) = true := by decide +kernel
theorem hm2 : decide (((P0 1).into 1 0 0).told 2 0 1) = true := by decide +kernel
theorem hm3 : (((P0 1).into 1 0 0).into 2 0 1).due 10 ∧ decide ((((P0 1).into 1 0 0).into 2 0 1).limit < (((P0 1).into 1 0 0).into 2 0 1).short) = true ∧ ((((P0 1).into 1 0 0).into 2 0 1).looked 10).silent = 1 ∧ (((P0 1).into 1 0 0).into 2 0 1).last + (((P0 1).into 1 0 0).into 2 0 1).every = 10 := by decide +kernel
set_option maxHeartbeats 4000000 in
theorem mhead_ret (w : World) : Calls Try.prog 27 #[] w fun e w' => e = .returned (.bool true) ∧ Below w.heap.size w w' := by
  have HP := Lib.hid (fun W => plain_ret 1 W)
  have HN := Lib.hid (fun W => mnew_ok 2 0 16 1099511627776 0 16 1099511627776 10 1 0 W (by decide) (by decide) (by decide))
  have HN' : Hid (∀ W, Calls Try.prog 28 #[MV 2 0 16 1099511627776 0 16 1099511627776 10 1, .int .i64 0] W fun e w' => ∃ b lo, e = .returned (.tuple #[.pointer (some ⟨b, 0, none⟩), .int .i64 0]) ∧ W.heap.size ≤ lo ∧ Mg w' b lo w'.heap.size (P0 1) ∧ Below W.heap.size W w') := HN
  have H1 : Hid (∀ W b lo hi, Mg W b lo hi (P0 1) → Calls Try.prog 30 #[.pointer (some ⟨b, 0, none⟩), .int .i64 1, .int .i64 0, .int .i64 0] W fun e w' => e = .returned (.tuple #[.bool true, .int .i64 0]) ∧ Mg w' b lo hi ((P0 1).into 1 0 0) ∧ ButI lo hi W w') := Lib.hid (fun W b lo hi h => by
    have k := min_ok h (P0_good 1) 1 0 0 (by decide) (by decide) (by decide) (by decide) (by decide)
    rw [hm1] at k; exact k)
  have g1 := (P0_good 1).into (now := 1) (way := 0) (seq := 0) (by decide) (by decide) (by decide) (by decide)
  have H2 : Hid (∀ W b lo hi, Mg W b lo hi ((P0 1).into 1 0 0) → Calls Try.prog 30 #[.pointer (some ⟨b, 0, none⟩), .int .i64 2, .int .i64 0, .int .i64 1] W fun e w' => e = .returned (.tuple #[.bool true, .int .i64 0]) ∧ Mg w' b lo hi (((P0 1).into 1 0 0).into 2 0 1) ∧ ButI lo hi W w') := Lib.hid (fun W b lo hi h => by
    have k := min_ok h g1 2 1 0 (by decide) (by decide) (by decide) (by decide) (by decide)
    rw [hm2] at k; exact k)
  have H3 : Hid (∀ W b lo hi, Mg W b lo hi (((P0 1).into 1 0 0).into 2 0 1) → Calls Try.prog 31 #[.pointer (some ⟨b, 0, none⟩), .int .i64 10] W fun e w' => e = .returned (.bool true) ∧ Mg w' b lo hi ((((P0 1).into 1 0 0).into 2 0 1).looked 10) ∧ ButI lo hi W w') := Lib.hid (fun W b lo hi h => by
    have k := mlook_yes h 10 (by rw [hm3.2.2.2]; decide) hm3.1
    rw [hm3.2.1] at k; exact k)
  have H4 : Hid (∀ W b lo hi, Mg W b lo hi ((((P0 1).into 1 0 0).into 2 0 1).looked 10) → Calls Try.prog 32 #[.pointer (some ⟨b, 0, none⟩)] W fun e w' => e = .returned (.int .i64 1) ∧ w' = W) := Lib.hid (fun W b lo hi h => by
    have k := msilent_any h
    rw [hm3.2.2.1] at k; exact k)
  clear HN g1
  go_enter Try.func27, Try.ntmps27
  go_wp2_with (first
    | (go_at_call 34; (with_reducible refine (HP.out _).mono ?_); rintro e x0 ⟨rfl, hb⟩; have HB0 := Lib.hid hb; clear hb)
    | (go_at_call 28; (with_reducible refine (HN'.out _).mono ?_); rintro e x1 ⟨b, lo, rfl, hlo, hm, hb⟩; have HM1 := Lib.hid hm; have HLO : Hid (w.heap.size ≤ lo) := Lib.hid (Nat.le_trans HB0.out.size hlo); have HB1 := Lib.hid (bTr HB0.out hb); clear hlo hm hb)
    | (go_at_call 30; (with_reducible refine (H1.out _ _ _ _ HM1.out).mono ?_); rintro e x2 ⟨rfl, hm, hb⟩; have HM2 := Lib.hid hm; have HB2 := Lib.hid (HB1.out.trans (hb.below HLO.out HM1.out.top.1 (by have := HM1.out.top; omega))); clear hm hb)
    | (go_at_call 30; (with_reducible refine (H2.out _ _ _ _ HM2.out).mono ?_); rintro e x3 ⟨rfl, hm, hb⟩; have HM3 := Lib.hid hm; have HB3 := Lib.hid (HB2.out.trans (hb.below HLO.out HM2.out.top.1 (by have := HM2.out.top; omega))); clear hm hb)
    | (go_at_call 31; (with_reducible refine (H3.out _ _ _ _ HM3.out).mono ?_); rintro e x4 ⟨rfl, hm, hb⟩; have HM4 := Lib.hid hm; have HB4 := Lib.hid (HB3.out.trans (hb.below HLO.out HM3.out.top.1 (by have := HM3.out.top; omega))); clear hm hb)
    | (go_at_call 32; (with_reducible refine (H4.out _ _ _ _ HM4.out).mono ?_); rintro e x5 ⟨rfl, rfl⟩))
  go_ret
  exact ⟨rfl, HB4.out⟩

end Go.Proofs.Ytnkblihdgfhcdaa
