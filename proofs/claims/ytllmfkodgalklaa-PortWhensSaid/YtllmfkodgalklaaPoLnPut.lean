/- Package lanes: Put. -/
import Derived.Test.YtllmfkodgalklaaPoLnNew
namespace Go.Proofs.Ytllmfkodgalklaa
open Go.RowKit Go.Joins

theorem put_nil (c : Int) (x : It) (w : World) : Calls Try.prog 19 #[.pointer none, .int .i64 c, itv x] w fun e w' => e = .returned (.int .i64 1) ∧ Below w.heap.size w w' := by
  obtain ⟨x0, x1, x2⟩ := x
  unfold itv
  go_enter Try.func19, Try.ntmps19
  go_wp2_with fail
  go_ret
  exact ⟨rfl, bAl (bRef w) _⟩
theorem put_bad (b : Nat) (c : Int) (x : It) (hx : x.2.1 < 0 ∨ 1600 < x.2.1) (w : World) : Calls Try.prog 19 #[.pointer (some ⟨b, 0, none⟩), .int .i64 c, itv x] w fun e w' => e = .returned (.int .i64 1) ∧ Below w.heap.size w w' := by
  obtain ⟨x0, x1, x2⟩ := x
  unfold itv
  dsimp only at *
  by_cases h1 : x1 < 0
  · have d1 : decide (x1 < 0) = true := decide_eq_true h1
    clear hx h1
    go_enter Try.func19, Try.ntmps19
    go_wp2_with fail
    go_ret
    exact ⟨rfl, bAl (bRef w) _⟩
  · have d1 : decide (x1 < 0) = false := decide_eq_false h1
    have d2 : decide (1600 < x1) = true := decide_eq_true (by omega)
    clear hx h1
    go_enter Try.func19, Try.ntmps19
    go_wp2_with fail
    go_ret
    exact ⟨rfl, bAl (bRef w) _⟩
theorem put_port (b : Nat) (c : Int) (x : It) (h0 : 0 ≤ x.2.1) (h1 : x.2.1 ≤ 1600) (hc : c < 0 ∨ 8 ≤ c) (w : World) : Calls Try.prog 19 #[.pointer (some ⟨b, 0, none⟩), .int .i64 c, itv x] w fun e w' => e = .returned (.int .i64 40) ∧ Below w.heap.size w w' := by
  obtain ⟨x0, x1, x2⟩ := x
  unfold itv
  dsimp only at *
  have d1 : decide (x1 < 0) = false := decide_eq_false (by omega)
  have d2 : decide (1600 < x1) = false := decide_eq_false (by omega)
  have HI := Lib.hid (fun W => isc_no c hc W)
  clear h0 h1 hc
  go_enter Try.func19, Try.ntmps19
  go_wp2_with (go_at_call 42; (with_reducible refine (HI.out _).mono ?_); rintro e w1 ⟨rfl, rfl⟩)
  go_ret
  exact ⟨rfl, bAl (bRef w) _⟩
section
variable {w : World} {b : Nat} {F : Nat → Prop} {s : LS}
set_option maxHeartbeats 2000000 in
theorem put_full (h : Ln w b F s) (c : Nat) (hc : c < 8) (x : It) (h0 : 0 ≤ x.2.1) (h1 : x.2.1 ≤ 1600) (hl : (s.q c).length < 100000) (hf : s.full c x.2.2 = true) :
    Calls Try.prog 19 #[.pointer (some ⟨b, 0, none⟩), .int .i64 (c : Int), itv x] w fun e w' => e = .returned (.int .i64 30) ∧ Ln w' b F { s with lost := upd s.lost c (wrap64 (s.lost c + 1)) } ∧ ButP F w w' := by
  obtain ⟨x0, x1, x2⟩ := x
  unfold itv
  dsimp only at *
  have d1 : decide (x1 < 0) = false := decide_eq_false (by omega)
  have d2 : decide (1600 < x1) = false := decide_eq_false (by omega)
  have HI := Lib.hid (fun W => isc_yes (c : Int) (by omega) (by omega) W)
  have HF : Hid (∀ W, Ln W b F s → Calls Try.prog 43 #[.pointer (some ⟨b, 0, none⟩), .int .i64 (c : Int), .bool x2] W fun e w' => e = .returned (.bool true) ∧ w' = W) := Lib.hid (fun W hW => by
    have k := full_any hW c hc x2 hl
    rw [hf] at k; exact k)
  have H := Lib.hid h
  obtain ⟨sl, h⟩ := h
  have HW : Hid (∀ o, LnI (w.alloc o) b F s sl) := Lib.hid (fun o => h.below (bAl (bRef w) o))
  have k0 : (w.alloc (.cells #[.int .i64 x0, .int .i64 x1, .bool x2] 35)).cell? ⟨b, 16 + c, none⟩ = some (.int .i64 (s.lost c)) := (HW.out _).cl hc
  have k1 : (w.alloc (.cells #[.int .i64 x0, .int .i64 x1, .bool x2] 35)).frozen? ⟨b, 16 + c, none⟩ = false := (HW.out _).fz _
  have i1 : (0 : Int) ≤ (c : Int) := by omega
  have i2 : (c : Int) < 8 := by omega
  have HC := Lib.hid hc
  clear h h0 h1 hc hf hl
  go_enter Try.func19, Try.ntmps19
  go_wp2_with (first
    | (go_at_call 42; (with_reducible refine (HI.out _).mono ?_); rintro e w1 ⟨rfl, rfl⟩)
    | (go_at_call 43; (with_reducible refine (HF.out _ (H.out.alloc _)).mono ?_); rintro e w1 ⟨rfl, rfl⟩))
  go_region
  all_goals go_wp2_with fail
  all_goals go_ret
  all_goals exact ⟨rfl, Ln.drew ⟨sl, (HW.out _).setl HC.out _⟩, ((ButP.of_below (bAl (bRef w) _)).same ((HW.out _).setB _ _)).drew⟩
end

end Go.Proofs.Ytllmfkodgalklaa
