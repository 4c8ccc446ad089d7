/- Package lanes: the small ones. -/
import Derived.Test.YtllmfkodgalklaaPoLnMem
namespace Go.Proofs.Ytllmfkodgalklaa
open Go.RowKit Go.Joins

theorem isc_yes (c : Int) (h0 : 0 ≤ c) (h1 : c < 8) (w : World) : Calls Try.prog 42 #[.int .i64 c] w fun e w' => e = .returned (.bool true) ∧ w' = w := by
  have d1 : decide (0 ≤ c) = true := decide_eq_true h0
  have d2 : decide (c < 8) = true := decide_eq_true h1
  clear h0 h1
  go_enter Try.func42, Try.ntmps42
  go_wp2_with fail
  go_ret
  exact ⟨rfl, rfl⟩
theorem isc_no (c : Int) (h : c < 0 ∨ 8 ≤ c) (w : World) : Calls Try.prog 42 #[.int .i64 c] w fun e w' => e = .returned (.bool false) ∧ w' = w := by
  by_cases h0 : 0 ≤ c
  · have d1 : decide (0 ≤ c) = true := decide_eq_true h0
    have d2 : decide (c < 8) = false := decide_eq_false (by omega)
    clear h0 h
    go_enter Try.func42, Try.ntmps42
    go_wp2_with fail
    go_ret
    exact ⟨rfl, rfl⟩
  · have d1 : decide (0 ≤ c) = false := decide_eq_false h0
    clear h0 h
    go_enter Try.func42, Try.ntmps42
    go_wp2_with fail
    go_ret
    exact ⟨rfl, rfl⟩

theorem len_nil (c : Int) (w : World) : Calls Try.prog 24 #[.pointer none, .int .i64 c] w fun e w' => e = .returned (.int .i64 0) ∧ w' = w := by
  go_enter Try.func24, Try.ntmps24
  go_wp2_with fail
  go_ret
  exact ⟨rfl, rfl⟩
theorem lost_nil (c : Int) (w : World) : Calls Try.prog 25 #[.pointer none, .int .i64 c] w fun e w' => e = .returned (.int .i64 0) ∧ w' = w := by
  go_enter Try.func25, Try.ntmps25
  go_wp2_with fail
  go_ret
  exact ⟨rfl, rfl⟩
section
variable {w : World} {b : Nat} {F : Nat → Prop} {s : LS}
theorem len_no (b : Nat) (c : Int) (h : c < 0 ∨ 8 ≤ c) (w : World) : Calls Try.prog 24 #[.pointer (some ⟨b, 0, none⟩), .int .i64 c] w fun e w' => e = .returned (.int .i64 0) ∧ w' = w := by
  have HI := Lib.hid (fun W => isc_no c h W)
  clear h
  go_enter Try.func24, Try.ntmps24
  go_wp2_with (go_at_call 42; (with_reducible refine (HI.out _).mono ?_); rintro e w1 ⟨rfl, rfl⟩)
  go_ret
  exact ⟨rfl, rfl⟩
theorem len_yes (h : Ln w b F s) (c : Nat) (hc : c < 8) : Calls Try.prog 24 #[.pointer (some ⟨b, 0, none⟩), .int .i64 (c : Int)] w fun e w' => e = .returned (.int .i64 ((s.q c).length : Int)) ∧ w' = w := by
  obtain ⟨sl, h⟩ := h
  have k := h.cq hc
  obtain ⟨p, cp, e⟩ := (h.q c hc).form
  rw [e] at k
  have HI := Lib.hid (fun W => isc_yes (c : Int) (by omega) (by omega) W)
  have i1 : (0 : Int) ≤ (c : Int) := by omega
  have i2 : (c : Int) < 8 := by omega
  clear h e
  go_enter Try.func24, Try.ntmps24
  go_wp2_with (go_at_call 42; (with_reducible refine (HI.out _).mono ?_); rintro e w1 ⟨rfl, rfl⟩)
  go_ret
  exact ⟨rfl, rfl⟩
theorem lost_no (b : Nat) (c : Int) (h : c < 0 ∨ 8 ≤ c) (w : World) : Calls Try.prog 25 #[.pointer (some ⟨b, 0, none⟩), .int .i64 c] w fun e w' => e = .returned (.int .i64 0) ∧ w' = w := by
  have HI := Lib.hid (fun W => isc_no c h W)
  clear h
  go_enter Try.func25, Try.ntmps25
  go_wp2_with (go_at_call 42; (with_reducible refine (HI.out _).mono ?_); rintro e w1 ⟨rfl, rfl⟩)
  go_ret
  exact ⟨rfl, rfl⟩
theorem lost_yes (h : Ln w b F s) (c : Nat) (hc : c < 8) : Calls Try.prog 25 #[.pointer (some ⟨b, 0, none⟩), .int .i64 (c : Int)] w fun e w' => e = .returned (.int .i64 (s.lost c)) ∧ w' = w := by
  obtain ⟨sl, h⟩ := h
  have k := h.cl hc
  have HI := Lib.hid (fun W => isc_yes (c : Int) (by omega) (by omega) W)
  have i1 : (0 : Int) ≤ (c : Int) := by omega
  have i2 : (c : Int) < 8 := by omega
  clear h
  go_enter Try.func25, Try.ntmps25
  go_wp2_with (go_at_call 42; (with_reducible refine (HI.out _).mono ?_); rintro e w1 ⟨rfl, rfl⟩)
  go_ret
  exact ⟨rfl, rfl⟩
/-- Is there no room? -/
def LS.full (s : LS) (c : Nat) (d : Bool) : Bool := decide (s.r c ≤ (if d then 2 * ((s.q c).length : Int) else ((s.q c).length : Int)))
theorem full_any (h : Ln w b F s) (c : Nat) (hc : c < 8) (d : Bool) (hl : (s.q c).length < 100000) : Calls Try.prog 43 #[.pointer (some ⟨b, 0, none⟩), .int .i64 (c : Int), .bool d] w fun e w' => e = .returned (.bool (s.full c d)) ∧ w' = w := by
  obtain ⟨sl, h⟩ := h
  have k := h.cq hc
  have kr := h.cr hc
  obtain ⟨p, cp, e⟩ := (h.q c hc).form
  rw [e] at k
  unfold LS.full
  generalize (s.q c).length = n at *
  have i1 : (0 : Int) ≤ (c : Int) := by omega
  have i2 : (c : Int) < 8 := by omega
  have e2 : wrap64 ((n : Int) * 2) = 2 * (n : Int) := by unfold wrap64; omega
  clear h e
  cases d
  all_goals
    go_enter Try.func43, Try.ntmps43
    go_wp2_with fail
    go_ret
    exact ⟨by first | (simp; done) | (simp; omega), rfl⟩
end
/-- Eight ints. -/
def a8 (r : Nat → Int) : Value := .agg #[.int .i64 (r 0), .int .i64 (r 1), .int .i64 (r 2), .int .i64 (r 3), .int .i64 (r 4), .int .i64 (r 5), .int .i64 (r 6), .int .i64 (r 7)]
def o8 (r : Nat → Int) : Obj := .cells #[.int .i64 (r 0), .int .i64 (r 1), .int .i64 (r 2), .int .i64 (r 3), .int .i64 (r 4), .int .i64 (r 5), .int .i64 (r 6), .int .i64 (r 7)] 31
theorem eight_ret (n : Int) (w : World) : Calls Try.prog 9 #[.int .i64 n] w fun e w' => e = .returned (a8 (fun _ => n)) ∧ Below w.heap.size w w' := by
  go_enter Try.func9, Try.ntmps9
  go_wp2_with fail
  exact bodyPost_ret (results_cell_row rfl _ _ w.heap.size 31 _ (0, 0) _ rfl (heap_alloc_one' w _) Try.underlying31 rfl (by kernel_rfl)) rfl ⟨rfl, bAl (bRef w) _⟩
theorem a8_index (r : Nat → Int) (k : Nat) (hk : k < 8) (W : World) : (Instr.index 31 (a8 r) (.int .i64 (k : Int))).run Try.prog W = .ok (.int .i64 (r k)) W := by
  rcases eight_cases hk with rfl | rfl | rfl | rfl | rfl | rfl | rfl | rfl <;> rfl
theorem o8_cells (r : Nat → Int) {w : World} {b : Nat} (h : w.heap[b]? = some (o8 r)) {k : Nat} (hk : k < 8) : w.cell? ⟨b, k, none⟩ = some (.int .i64 (r k)) := by
  rw [cell_of_row _ _ _ _ _ _ h]
  rcases eight_cases hk with rfl | rfl | rfl | rfl | rfl | rfl | rfl | rfl <;> rfl

end Go.Proofs.Ytllmfkodgalklaa
