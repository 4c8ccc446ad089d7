/- Package seqr: the small ones. -/
import Derived.Test.YtnkblihdgfhcdaaSqMem
namespace Go.Proofs.Ytnkblihdgfhcdaa
open Go.RowKit Go.Joins

section
variable {w : World} {b : Nat} {m : SQ}
theorem isNew_any (h : Sq w b m) : Calls Try.prog 35 #[.pointer (some ⟨b, 0, none⟩)] w fun e w' => e = .returned (.bool (decide (m.come = 0))) ∧ w' = w := by
  have k3 := h.c.k3
  have hd : ((m.come : Int) == 0) = decide (m.come = 0) := by rw [Bool.eq_iff_iff]; simp
  obtain ⟨v, hv⟩ : ∃ v, decide (m.come = 0) = v := ⟨_, rfl⟩
  rw [hv] at hd ⊢
  clear h hv
  go_enter Try.func35, Try.ntmps35
  go_wp2_with fail
  go_ret
  first | exact ⟨rfl, rfl⟩ | exact ⟨ret_b hd, rfl⟩
theorem reset_any (h : Sq w b m) : Calls Try.prog 17 #[.pointer (some ⟨b, 0, none⟩)] w fun e w' => e = .returned (.tuple #[]) ∧ Sq w' b { m with come := 0, resets := wrap64 (m.resets + 1) } ∧ ButB b w w' := by
  obtain ⟨k0, k1, k2, k3, k4, k5, k6, k7, k8, k9, k10, k11, f3, f4, f5, f6, f7, f8, f9, f10, f11⟩ := h.c
  have H := Lib.hid h
  clear h
  go_enter Try.func17, Try.ntmps17
  go_wp2_with fail
  go_end0
  exact ⟨rfl, (H.out.set3 0).set10 _, (H.out.setB 3 _).trans ((H.out.set3 0).setB 10 _)⟩
theorem reset_nil (w : World) : Calls Try.prog 17 #[.pointer none] w fun e w' => e = .returned (.tuple #[]) ∧ w' = w := by
  go_enter Try.func17, Try.ntmps17
  go_wp2_with fail
  go_end0
  exact ⟨rfl, rfl⟩
abbrev C4 (x0 x1 x2 x3 : Int) : Value := .agg #[.int .i64 x0, .int .i64 x1, .int .i64 x2, .int .i64 x3]
theorem counts_any (h : Sq w b m) : Calls Try.prog 19 #[.pointer (some ⟨b, 0, none⟩)] w fun e w' => e = .returned (C4 m.c0 m.c1 m.c2 m.c3) ∧ Below w.heap.size w w' := by
  obtain ⟨W, hW⟩ : ∃ W, W = w.alloc (.cells #[.int .i64 0, .int .i64 0, .int .i64 0, .int .i64 0] 34) := ⟨_, rfl⟩
  have h' : Sq W b m := by rw [hW]; exact h.alloc _
  obtain ⟨k0, k1, k2, k3, k4, k5, k6, k7, k8, k9, k10, k11, f3, f4, f5, f6, f7, f8, f9, f10, f11⟩ := h'.c
  rw [hW] at k6 k7 k8 k9
  clear h h' f3 f4 f5 f6 f7 f8 f9 f10 f11 k0 k1 k2 k3 k4 k5 k10 k11 hW
  go_enter Try.func19, Try.ntmps19
  go_wp2_with fail
  exact bodyPost_ret (results_cell_row rfl _ _ w.heap.size 34 _ (0, 0) _ rfl (heap_alloc_one' _ _) Try.underlying34 rfl (by kernel_rfl)) rfl ⟨rfl, bAl (bRef w) _⟩
theorem counts_nil (w : World) : Calls Try.prog 19 #[.pointer none] w fun e w' => e = .returned (C4 0 0 0 0) ∧ Below w.heap.size w w' := by
  go_enter Try.func19, Try.ntmps19
  go_wp2_with fail
  exact bodyPost_ret (results_cell_row rfl _ _ w.heap.size 34 _ (0, 0) _ rfl (heap_alloc_one' _ _) Try.underlying34 rfl (by kernel_rfl)) rfl ⟨rfl, bAl (bRef w) _⟩
theorem resets_any (h : Sq w b m) : Calls Try.prog 20 #[.pointer (some ⟨b, 0, none⟩)] w fun e w' => e = .returned (.int .i64 m.resets) ∧ w' = w := by
  have k := h.c.k10
  clear h
  go_enter Try.func20, Try.ntmps20
  go_wp2_with fail
  go_ret
  exact ⟨rfl, rfl⟩
theorem lost_any (h : Sq w b m) : Calls Try.prog 21 #[.pointer (some ⟨b, 0, none⟩)] w fun e w' => e = .returned (.int .i64 m.lost) ∧ w' = w := by
  have k := h.c.k11
  clear h
  go_enter Try.func21, Try.ntmps21
  go_wp2_with fail
  go_ret
  exact ⟨rfl, rfl⟩
theorem resets_nil (w : World) : Calls Try.prog 20 #[.pointer none] w fun e w' => e = .returned (.int .i64 0) ∧ w' = w := by
  go_enter Try.func20, Try.ntmps20
  go_wp2_with fail
  go_ret
  exact ⟨rfl, rfl⟩
theorem lost_nil (w : World) : Calls Try.prog 21 #[.pointer none] w fun e w' => e = .returned (.int .i64 0) ∧ w' = w := by
  go_enter Try.func21, Try.ntmps21
  go_wp2_with fail
  go_ret
  exact ⟨rfl, rfl⟩
end

/-- Check. -/
abbrev QV (way len reset : Int) : Value := .agg #[.int .i64 way, .int .i64 len, .int .i64 reset]
def okQ (way len reset : Int) : Prop := (way = 0 ∨ way = 1) ∧ 1 ≤ len ∧ len ≤ 64 ∧ 1 ≤ reset ∧ reset ≤ 1099511627776
instance (way len reset : Int) : Decidable (okQ way len reset) := by unfold okQ; infer_instance
set_option maxHeartbeats 1000000 in
theorem qcheck_yes (way len reset : Int) (w : World) (h : okQ way len reset) : Calls Try.prog 18 #[QV way len reset] w fun e w' => e = .returned (.int .i64 0) ∧ Below w.heap.size w w' := by
  obtain ⟨h0, h1, h2, h3, h4⟩ := h
  have d1 : decide (len < 1) = false := decide_eq_false (by omega)
  have d2 : decide (64 < len) = false := decide_eq_false (by omega)
  have d3 : decide (reset < 1) = false := decide_eq_false (by omega)
  have d4 : decide (1099511627776 < reset) = false := decide_eq_false (by omega)
  clear h1 h2 h3 h4
  rcases h0 with rfl | rfl
  all_goals
    go_enter Try.func18, Try.ntmps18
    go_wp2_with fail
    go_ret
    exact ⟨rfl, bAl (bRef w) _⟩
set_option maxHeartbeats 1000000 in
theorem qcheck_no (way len reset : Int) (w : World) (h : ¬ okQ way len reset) : Calls Try.prog 18 #[QV way len reset] w fun e w' => e = .returned (.int .i64 1) ∧ Below w.heap.size w w' := by
  by_cases h0 : way = 0 ∨ way = 1
  · by_cases h1 : len < 1
    · have d1 : decide (len < 1) = true := decide_eq_true h1
      clear h h1
      rcases h0 with rfl | rfl
      all_goals
        go_enter Try.func18, Try.ntmps18
        go_wp2_with fail
        go_ret
        exact ⟨rfl, bAl (bRef w) _⟩
    have d1 : decide (len < 1) = false := decide_eq_false h1
    by_cases h2 : 64 < len
    · have d2 : decide (64 < len) = true := decide_eq_true h2
      clear h h1 h2
      rcases h0 with rfl | rfl
      all_goals
        go_enter Try.func18, Try.ntmps18
        go_wp2_with fail
        go_ret
        exact ⟨rfl, bAl (bRef w) _⟩
    have d2 : decide (64 < len) = false := decide_eq_false h2
    by_cases h3 : reset < 1
    · have d3 : decide (reset < 1) = true := decide_eq_true h3
      clear h h1 h2 h3
      rcases h0 with rfl | rfl
      all_goals
        go_enter Try.func18, Try.ntmps18
        go_wp2_with fail
        go_ret
        exact ⟨rfl, bAl (bRef w) _⟩
    have d3 : decide (reset < 1) = false := decide_eq_false h3
    have d4 : decide (1099511627776 < reset) = true := decide_eq_true (by
      rcases Int.lt_or_le 1099511627776 reset with g | g
      · exact g
      · exact absurd ⟨h0, by omega, by omega, by omega, g⟩ h)
    clear h h1 h2 h3
    rcases h0 with rfl | rfl
    all_goals
      go_enter Try.func18, Try.ntmps18
      go_wp2_with fail
      go_ret
      exact ⟨rfl, bAl (bRef w) _⟩
  · have e0 : (way != 0) = true := by simp; omega
    have e1 : (way != 1) = true := by simp; omega
    clear h h0
    go_enter Try.func18, Try.ntmps18
    go_wp2_with fail
    go_ret
    exact ⟨rfl, bAl (bRef w) _⟩
def Q0 (way len reset now : Int) : SQ := ⟨way, len, reset, 0, 0, now, 0, 0, 0, 0, 0, 0⟩
theorem qconf_kept {w w1 : World} {way len reset : Int} {t : TypeId} (hb : Below (w.alloc (.cells #[.int .i64 way, .int .i64 len, .int .i64 reset] t)).heap.size (w.alloc (.cells #[.int .i64 way, .int .i64 len, .int .i64 reset] t)) w1) :
    w1.cell? ⟨w.heap.size, 0, none⟩ = some (.int .i64 way) ∧ w1.cell? ⟨w.heap.size, 1, none⟩ = some (.int .i64 len) ∧ w1.cell? ⟨w.heap.size, 2, none⟩ = some (.int .i64 reset) := by
  refine ⟨?_, ?_, ?_⟩ <;> exact (hb.cell (by simp)).trans (by simp)
set_option maxHeartbeats 1000000 in
theorem qnew_ok (way len reset now : Int) (w : World) (h : okQ way len reset) :
    Calls Try.prog 14 #[QV way len reset, .int .i64 now] w fun e w' => ∃ b, e = .returned (.tuple #[.pointer (some ⟨b, 0, none⟩), .int .i64 0]) ∧ Sq w' b (Q0 way len reset now) ∧ w.heap.size ≤ b ∧ Below w.heap.size w w' := by
  have HC := Lib.hid (fun W => qcheck_yes way len reset W h)
  clear h
  go_enter Try.func14, Try.ntmps14
  go_wp2_with (go_at_call 18; (with_reducible refine (HC.out _).mono ?_); rintro e w1 ⟨rfl, hb⟩; have HB := Lib.hid hb; obtain ⟨k0, k1, k2⟩ := qconf_kept hb; clear hb)
  go_ret2
  have hb := bTr (bAl (bRef w) _) HB.out
  exact ⟨w1.heap.size, rfl, heap_alloc_one' w1 _, hb.size, bAl hb _⟩
theorem qnew_no (way len reset now : Int) (w : World) (h : ¬ okQ way len reset) :
    Calls Try.prog 14 #[QV way len reset, .int .i64 now] w fun e w' => e = .returned (.tuple #[.pointer none, .int .i64 1]) ∧ Below w.heap.size w w' := by
  have HC := Lib.hid (fun W => qcheck_no way len reset W h)
  clear h
  go_enter Try.func14, Try.ntmps14
  go_wp2_with (go_at_call 18; (with_reducible refine (HC.out _).mono ?_); rintro e w1 ⟨rfl, hb⟩; have HB := Lib.hid hb; clear hb)
  go_ret2
  exact ⟨rfl, bTr (bAl (bRef w) _) HB.out⟩

/-- Gen. -/
def Gn (w : World) (b : Nat) (x : Int) : Prop := w.heap[b]? = some (.cells #[.int .i64 x] 55 (0, 0))
theorem next_any {w : World} {b : Nat} {x : Int} (h : Gn w b x) (h0 : 0 ≤ x) (h1 : x < 65536) : Calls Try.prog 26 #[.pointer (some ⟨b, 0, none⟩)] w fun e w' => e = .returned (.int .i64 x) ∧ Gn w' b ((x + 1) % 65536) ∧ ButB b w w' := by
  have k0 : w.cell? ⟨b, 0, none⟩ = some (.int .i64 x) := cell_of_row _ _ _ _ _ _ h
  have f0 : w.frozen? ⟨b, 0, none⟩ = false := frozen_of_row _ _ _ _ _ h
  have e1 : wrap64 (x + 1) = x + 1 := by unfold wrap64; omega
  have e2 : (x + 1).tmod 65536 = (x + 1) % 65536 := Int.tmod_eq_emod_of_nonneg (by omega)
  have H := Lib.hid h
  clear h h0 h1
  go_enter Try.func26, Try.ntmps26
  go_wp2_with fail
  go_ret
  exact ⟨rfl, heap_setCell_same w b 0 _ _ _ H.out, set_but H.out 0 _⟩
theorem next_nil (w : World) : Calls Try.prog 26 #[.pointer none] w fun e w' => e = .returned (.int .i64 0) ∧ w' = w := by
  go_enter Try.func26, Try.ntmps26
  go_wp2_with fail
  go_ret
  exact ⟨rfl, rfl⟩

end Go.Proofs.Ytnkblihdgfhcdaa
