/- Package port: the small ones; Put, Change. -/
import Derived.Test.YtllmfkodgalklaaPoMem
namespace Go.Proofs.Ytllmfkodgalklaa
open Go.RowKit Go.Joins

def inNow (x : Int) : Prop := 0 ≤ x ∧ x ≤ 1099511627776
instance (x : Int) : Decidable (inNow x) := by unfold inNow; infer_instance
theorem isTime_any (x : Int) (w : World) : Calls Try.prog 30 #[.int .i64 x] w fun e w' => e = .returned (.bool (decide (inNow x))) ∧ w' = w := by
  by_cases h1 : 0 ≤ x
  · have d1 : decide (0 ≤ x) = true := decide_eq_true h1
    by_cases h2 : x ≤ 1099511627776
    · have d2 : decide (x ≤ 1099511627776) = true := decide_eq_true h2
      rw [decide_eq_true (show inNow x from ⟨h1, h2⟩)]
      clear h1 h2
      go_enter Try.func30, Try.ntmps30
      go_wp2_with fail
      go_ret
      exact ⟨rfl, rfl⟩
    · have d2 : decide (x ≤ 1099511627776) = false := decide_eq_false h2
      rw [decide_eq_false (show ¬ inNow x from fun k => h2 k.2)]
      clear h1 h2
      go_enter Try.func30, Try.ntmps30
      go_wp2_with fail
      go_ret
      exact ⟨rfl, rfl⟩
  · have d1 : decide (0 ≤ x) = false := decide_eq_false h1
    rw [decide_eq_false (show ¬ inNow x from fun k => h1 k.1)]
    clear h1
    go_enter Try.func30, Try.ntmps30
    go_wp2_with fail
    go_ret
    exact ⟨rfl, rfl⟩
theorem waiting_nil (w : World) : Calls Try.prog 39 #[.pointer none] w fun e w' => e = .returned (.pointer none) ∧ w' = w := by
  go_enter Try.func39, Try.ntmps39
  go_wp2_with fail
  go_ret
  exact ⟨rfl, rfl⟩
theorem waiting_some {w : World} {k L : Nat} (h : w.cell? ⟨k, 8, none⟩ = some (.pointer (some ⟨L, 0, none⟩))) : Calls Try.prog 39 #[.pointer (some ⟨k, 0, none⟩)] w fun e w' => e = .returned (.pointer (some ⟨L, 0, none⟩)) ∧ w' = w := by
  go_enter Try.func39, Try.ntmps39
  go_wp2_with fail
  go_ret
  exact ⟨rfl, rfl⟩
theorem plen_nil (c : Int) (w : World) : Calls Try.prog 16 #[.pointer none, .int .i64 c] w fun e w' => e = .returned (.int .i64 0) ∧ w' = w := by
  have HW := Lib.hid (fun W => waiting_nil W)
  have HL := Lib.hid (fun W => len_nil c W)
  go_enter Try.func16, Try.ntmps16
  go_wp2_with (first
    | (go_at_call 39; (with_reducible refine (HW.out _).mono ?_); rintro e w1 ⟨rfl, rfl⟩)
    | (go_at_call 24; (with_reducible refine (HL.out _).mono ?_); rintro e w2 ⟨rfl, rfl⟩))
  go_ret
  exact ⟨rfl, rfl⟩
theorem plost_nil (c : Int) (w : World) : Calls Try.prog 17 #[.pointer none, .int .i64 c] w fun e w' => e = .returned (.int .i64 0) ∧ w' = w := by
  have HW := Lib.hid (fun W => waiting_nil W)
  have HL := Lib.hid (fun W => lost_nil c W)
  go_enter Try.func17, Try.ntmps17
  go_wp2_with (first
    | (go_at_call 39; (with_reducible refine (HW.out _).mono ?_); rintro e w1 ⟨rfl, rfl⟩)
    | (go_at_call 25; (with_reducible refine (HL.out _).mono ?_); rintro e w2 ⟨rfl, rfl⟩))
  go_ret
  exact ⟨rfl, rfl⟩
theorem pclear_nil (w : World) : Calls Try.prog 15 #[.pointer none] w fun e w' => e = .returned (.int .i64 0) ∧ w' = w := by
  have HW := Lib.hid (fun W => waiting_nil W)
  have HL := Lib.hid (fun W => clear_nil W)
  go_enter Try.func15, Try.ntmps15
  go_wp2_with (first
    | (go_at_call 39; (with_reducible refine (HW.out _).mono ?_); rintro e w1 ⟨rfl, rfl⟩)
    | (go_at_call 41; (with_reducible refine (HL.out _).mono ?_); rintro e w2 ⟨rfl, rfl⟩))
  go_ret
  exact ⟨rfl, rfl⟩
section
variable {w0 W : World} {k L : Nat} {F : Nat → Prop} {p : PL} {s : LS}
theorem plen (h : PoL w0 W k L F p s) (c : Int) : Calls Try.prog 16 #[.pointer (some ⟨k, 0, none⟩), .int .i64 c] W fun e w' => e = .returned (.int .i64 (s.len c)) ∧ w' = W := by
  have HW := Lib.hid (waiting_some h.lan)
  have HL := Lib.hid (lenB h.ln c)
  generalize s.len c = z at *
  clear h
  go_enter Try.func16, Try.ntmps16
  go_wp2_with (first
    | (go_at_call 39; (with_reducible refine (HW.out).mono ?_); rintro e w1 ⟨rfl, rfl⟩)
    | (go_at_call 24; (with_reducible refine (HL.out).mono ?_); rintro e w2 ⟨rfl, rfl⟩))
  go_ret
  exact ⟨rfl, rfl⟩
theorem plost (h : PoL w0 W k L F p s) (c : Int) : Calls Try.prog 17 #[.pointer (some ⟨k, 0, none⟩), .int .i64 c] W fun e w' => e = .returned (.int .i64 (s.lostn c)) ∧ w' = W := by
  have HW := Lib.hid (waiting_some h.lan)
  have HL := Lib.hid (lostB h.ln c)
  generalize s.lostn c = z at *
  clear h
  go_enter Try.func17, Try.ntmps17
  go_wp2_with (first
    | (go_at_call 39; (with_reducible refine (HW.out).mono ?_); rintro e w1 ⟨rfl, rfl⟩)
    | (go_at_call 25; (with_reducible refine (HL.out).mono ?_); rintro e w2 ⟨rfl, rfl⟩))
  go_ret
  exact ⟨rfl, rfl⟩
theorem Left.but {w0 w w' : World} {b : Nat} {F : Nat → Prop} {s : LS} (h : Left w0 w b F s w') : ButP F w w' := by obtain ⟨_, _, _, h⟩ := h; exact h
set_option maxHeartbeats 1000000 in
theorem pput (h : PoL w0 W k L F p s) (c : Int) (x0 x1 : Int) (x2 : Bool) : Calls Try.prog 13 #[.pointer (some ⟨k, 0, none⟩), .int .i64 c, .agg #[.int .i64 x0, .int .i64 x1, .bool x2]] W fun e w' => e = .returned (.int .i64 (s.pute c (x0, x1, x2))) ∧ PLeft w0 W k L F p (s.put c (x0, x1, x2)) w' := by
  have hb0 := bAl (bRef W) (.cells #[.int .i64 x0, .int .i64 x1, .bool x2] 35)
  have HN : Hid (PoL w0 (W.alloc (.cells #[.int .i64 x0, .int .i64 x1, .bool x2] 35)).drew k L F p s) := Lib.hid ((h.below hb0).below (bDr1 (bRef _)))
  have HW := Lib.hid (waiting_some HN.out.lan)
  have HP := Lib.hid (putB HN.out.ln HN.out.gd c (x0, x1, x2))
  have hq := heap_alloc_one W (.cells #[.int .i64 x0, .int .i64 x1, .bool x2] 35)
  have HB : Hid ((W.alloc (.cells #[.int .i64 x0, .int .i64 x1, .bool x2] 35)).drew.cell? ⟨W.heap.size, 0, none⟩ = some (.int .i64 x0) ∧ (W.alloc (.cells #[.int .i64 x0, .int .i64 x1, .bool x2] 35)).drew.cell? ⟨W.heap.size, 1, none⟩ = some (.int .i64 x1) ∧ (W.alloc (.cells #[.int .i64 x0, .int .i64 x1, .bool x2] 35)).drew.cell? ⟨W.heap.size, 2, none⟩ = some (.bool x2)) := Lib.hid ⟨cell_of_row _ _ 0 _ _ _ hq, cell_of_row _ _ 1 _ _ _ hq, cell_of_row _ _ 2 _ _ _ hq⟩
  have HF : Hid (¬ F W.heap.size) := Lib.hid (fun e => by obtain ⟨sl, hl⟩ := h.ln.ln; have := hl.top _ e; omega)
  have HPL := Lib.hid (hb0.trans (bDr1 (bRef (W.alloc (.cells #[.int .i64 x0, .int .i64 x1, .bool x2] 35))) |>.mono (by simp)))
  clear h hq hb0
  go_enter Try.func13, Try.ntmps13
  go_wp2_with fail
  refine wp_region_held_drew (S := fun V => V.cell? ⟨W.heap.size, 0, none⟩ = some (.int .i64 x0) ∧ V.cell? ⟨W.heap.size, 1, none⟩ = some (.int .i64 x1) ∧ V.cell? ⟨W.heap.size, 2, none⟩ = some (.bool x2)) (by kernel_rfl) HB.out (fun h0 => ?_)
  refine hTakeS (i := 0) (k := 7) (v := .pointer (some ⟨k, 0, none⟩)) rfl rfl (by kernel_rfl) (by kernel_rfl) (by kernel_rfl) (fun _ _ _ h => h) (yieldsIf_val (by rfl) (by intro W; go_simp)) h0 ?_
  simp only [List.setIfInBounds_toArray, List.set_cons_zero, List.set_cons_succ]
  refine hTakeS (i := 2) (k := 9) (v := .int .i64 c) rfl rfl (by kernel_rfl) (by kernel_rfl) (by kernel_rfl) (fun _ _ _ h => h) (yieldsIf_val (by rfl) (by intro W; go_simp)) h0 ?_
  simp only [List.setIfInBounds_toArray, List.set_cons_zero, List.set_cons_succ]
  refine hTakeS (i := 3) (k := 10) (v := .agg #[.int .i64 x0, .int .i64 x1, .bool x2]) rfl rfl (by kernel_rfl) (by kernel_rfl) (by kernel_rfl) (fun _ _ _ h => h) (.inl ⟨by rfl, fun W hW => by obtain ⟨b0, b1, b2⟩ := hW; go_simp⟩) h0 ?_
  simp only [List.setIfInBounds_toArray, List.set_cons_zero, List.set_cons_succ]
  refine hCallR (i := 1) (k := 8) (by kernel_rfl) rfl rfl (by rfl) 39 #[.pointer (some ⟨k, 0, none⟩)] (by go_simp) (HW.out) ?_
  rintro e w1 ⟨rfl, rfl⟩
  refine ⟨_, rfl, h0, ?_⟩
  simp only [List.setIfInBounds_toArray, List.set_cons_zero, List.set_cons_succ]
  refine hCallR (i := 4) (k := 11) (by kernel_rfl) rfl rfl (by rfl) 19 #[.pointer (some ⟨L, 0, none⟩), .int .i64 c, .agg #[.int .i64 x0, .int .i64 x1, .bool x2]] (by go_simp) (HP.out) ?_
  rintro e w2 ⟨rfl, hl⟩
  have HR := Lib.hid (PLeft.lanes HN.out hl (HN.out.gd.put HN.out.ok c (x0, x1, x2)) (by rw [put_r]; exact HN.out.ok))
  have hbp := hl.but
  have h1 := And.intro (hbp.cell h0.1 HF.out) (And.intro (hbp.cell h0.2.1 HF.out) (hbp.cell h0.2.2 HF.out))
  clear hl hbp
  refine ⟨_, rfl, h1, ?_⟩
  simp only [List.setIfInBounds_toArray, List.set_cons_zero, List.set_cons_succ]
  refine hTakeS (i := 5) (k := 6) (v := .int .i64 (s.pute c (x0, x1, x2))) rfl rfl (by kernel_rfl) (by kernel_rfl) (by kernel_rfl) (fun _ _ _ h => h) (yieldsIf_val (by rfl) (by intro W; go_simp)) h1 ?_
  simp only [List.setIfInBounds_toArray, List.set_cons_zero, List.set_cons_succ]
  refine wpAnyH_done (by kernel_rfl) ?_ _
  go_wp2_with fail
  go_ret
  exact ⟨rfl, HR.out.from HPL.out⟩
end

end Go.Proofs.Ytllmfkodgalklaa
