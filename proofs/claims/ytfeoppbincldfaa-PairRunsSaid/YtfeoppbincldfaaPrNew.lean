/- Package pair: New. -/
import Derived.Test.YtfeoppbincldfaaPrIn
import Derived.LoopN
namespace Go.Proofs.Ytfeoppbincldfaa
open Go.RowKit Go.Joins

theorem Try.builtPr (x : Int) : Try.prog.built 121 [(1, .int .i64 x), (3, .int .i64 (-1))] = some #[.pointer none, .pointer none, .int .i64 x, .bool false, .int .i64 (-1)] := by kernel_rfl
theorem at_buildPr {ops : Array Oper} {rest : List Oper} {d : Option Tmp} {t : TypeId} {st : String} {af : Array Edge} {a : Act} {w : World} {x : Array (Nat × Operand)} {Q : Exit → Act → World → Prop}
    (h : wpList Try.prog ops Q (⟨d, .build 121 x, t, st, af, none⟩ :: rest) a w) : wpList Try.prog ops Q (⟨d, .build 121 x, t, st, af, none⟩ :: rest) a w := h
theorem pnew_no {x : Int} (h : x < 1) (w : World) : Calls Try.prog 14 #[.int .i64 x] w fun e w' => e = .returned (.tuple #[.pointer none, .int .i64 1]) ∧ w' = w := by
  have d : decide (x < 1) = true := decide_eq_true h
  clear h
  go_enter Try.func14, Try.ntmps14
  go_wp2_with fail
  go_ret2
  exact ⟨rfl, rfl⟩
def PP.new (x : Int) : PP := ⟨CS.new 0, CS.new 1, x, false, -1⟩
theorem PP.Ok.new {x : Int} (h : In64 x) : (PP.new x).Ok := ⟨CS.Ok.new 0, CS.Ok.new 1, rfl, rfl, h, .inl rfl⟩
set_option maxHeartbeats 1000000 in
theorem pnew_ok {x : Int} (h : 1 ≤ x) (w : World) : Calls Try.prog 14 #[.int .i64 x] w fun e w' => ∃ p k0 k1, e = .returned (.tuple #[.pointer (some ⟨p, 0, none⟩), .int .i64 0]) ∧ w.heap.size ≤ p ∧ w.heap.size ≤ k0 ∧ w.heap.size ≤ k1 ∧ Pw w' p k0 k1 (PP.new x) ∧ Below w.heap.size w w' := by
  have d : decide (x < 1) = false := decide_eq_false (by omega)
  clear h
  have hb0 := bAl (bRef w) (.cells #[.pointer none, .pointer none, .int .i64 x, .bool false, .int .i64 (-1)] 121)
  have hr0 := heap_alloc_new w (.cells #[.pointer none, .pointer none, .int .i64 x, .bool false, .int .i64 (-1)] 121)
  have H0 := Lib.hid hr0
  have HB0 := Lib.hid hb0
  have HN := Lib.hid (fun d W => newc_any d W)
  clear hb0
  go_enter Try.func14, Try.ntmps14
  go_wp2_with ((with_reducible refine at_buildPr ?_); refine wpList_buildG rfl _ _ rfl #[.pointer none, .pointer none, .int .i64 x, .bool false, .int .i64 (-1)] (by simp only [List.map_toArray, List.map_cons, List.map_nil]; exact Try.builtPr x) ?_)
  refine wp_loop_rounds 3 ?_
  rw [rounds_succ]
  go_wp2_with fail
  refine wp_region_held_drew (S := fun (_ : World) => True) (by kernel_rfl) trivial (fun h0 => ?_)
  refine hTakeS (i := 0) (k := 14) (v := .pointer (some ⟨w.heap.size, 0, none⟩)) rfl rfl (by kernel_rfl) (by kernel_rfl) (by kernel_rfl) (fun _ _ _ h => h) (yieldsIf_val (by rfl) (by intro W; go_simp)) h0 ?_
  simp only [List.setIfInBounds_toArray, List.set_cons_zero, List.set_cons_succ]
  refine hTakeS (i := 1) (k := 15) (v := .int .i64 0) rfl rfl (by kernel_rfl) (by kernel_rfl) (by kernel_rfl) (fun _ _ _ h => h) (yieldsIf_val (by rfl) (by intro W; go_simp)) h0 ?_
  simp only [List.setIfInBounds_toArray, List.set_cons_zero, List.set_cons_succ]
  refine hTakeS (i := 2) (k := 16) (v := .int .i64 0) rfl rfl (by kernel_rfl) (by kernel_rfl) (by kernel_rfl) (fun _ _ _ h => h) (yieldsIf_val (by rfl) (by intro W; go_simp)) h0 ?_
  simp only [List.setIfInBounds_toArray, List.set_cons_zero, List.set_cons_succ]
  refine hTakeS (i := 4) (k := 18) (v := .pointer (some ⟨w.heap.size, 0, none⟩)) rfl rfl (by kernel_rfl) (by kernel_rfl) (by kernel_rfl) (fun _ _ _ h => h) (yieldsIf_val (by rfl) (by intro W; go_simp)) h0 ?_
  simp only [List.setIfInBounds_toArray, List.set_cons_zero, List.set_cons_succ]
  refine hTakeS (i := 5) (k := 19) (v := .pointer (some ⟨w.heap.size, 0, none⟩)) rfl rfl (by kernel_rfl) (by kernel_rfl) (by kernel_rfl) (fun _ _ _ h => h) (yieldsIf_val (by rfl) (by intro W; go_simp)) h0 ?_
  simp only [List.setIfInBounds_toArray, List.set_cons_zero, List.set_cons_succ]
  refine hCallR (i := 3) (k := 17) (by kernel_rfl) rfl rfl (by rfl) 22 #[.int .i64 0] (by go_simp) (HN.out _ _) ?_
  rintro e w1 ⟨b0, rfl, hl0, hc0, hb0⟩
  refine ⟨_, rfl, trivial, ?_⟩
  simp only [List.setIfInBounds_toArray, List.set_cons_zero, List.set_cons_succ]
  have hx0 : w1.heap[w.heap.size]? = some (.cells #[.pointer none, .pointer none, .int .i64 x, .bool false, .int .i64 (-1)] 121 (0, 0)) := (hb0.block _ (lt_of_heap H0.out)).trans H0.out
  refine hTakeS (i := 6) (k := 20) (v := .pointer (some ⟨w.heap.size, 0, none⟩)) rfl rfl (by kernel_rfl) (by kernel_rfl) (by kernel_rfl) (fun _ _ _ h => h) (yieldsIf_val (by rfl) (by intro W; go_simp)) trivial ?_
  simp only [List.setIfInBounds_toArray, List.set_cons_zero, List.set_cons_succ]
  have fz0 : w1.frozen? ⟨w.heap.size, 0, none⟩ = false := frozen_of_row _ _ _ _ _ hx0
  have cz0 : w1.cell? ⟨w.heap.size, 0, none⟩ = some (.pointer none) := cell_of_row _ _ _ _ _ _ hx0
  refine hOneNS (i := 7) (w' := (w1.setCell ⟨w.heap.size, 0, none⟩ (.pointer (some ⟨b0, 0, none⟩)))) (by kernel_rfl) rfl rfl (by rfl) (by go_simp) trivial ?_
  refine wpAnyH_done (by kernel_rfl) ?_ _
  have Y0 := Lib.hid (show (w1.setCell ⟨w.heap.size, 0, none⟩ (.pointer (some ⟨b0, 0, none⟩))).heap[w.heap.size]? = some (.cells #[.pointer (some ⟨b0, 0, none⟩), .pointer none, .int .i64 x, .bool false, .int .i64 (-1)] 121 (0, 0)) from heap_setCell_same w1 w.heap.size 0 _ _ _ hx0)
  have YB0 := Lib.hid (bSet (bTr (bDr1 HB0.out) hb0) ⟨w.heap.size, 0, none⟩ (Nat.le_refl _) (.pointer (some ⟨b0, 0, none⟩)))
  have hs0 : w.heap.size < w1.heap.size := lt_of_heap hx0
  have hn0 : b0 ≠ w.heap.size := by have := hl0; simp at this; omega
  have C0 := Lib.hid (hc0.but (set_but (ButB.refl w.heap.size w1) 0 (.pointer (some ⟨b0, 0, none⟩))) hn0)
  have L0 := Lib.hid (show w.heap.size ≤ b0 from by have := hl0; simp at this; omega)
  clear hx0 fz0 cz0 hl0 hc0 hb0 hs0
  go_wp2_with fail
  rw [rounds_succ]
  generalize w1.setCell ⟨w.heap.size, 0, none⟩ (.pointer (some ⟨b0, 0, none⟩)) = X at *
  go_wp2_with fail
  refine wp_region_held_drew (S := fun (_ : World) => True) (by kernel_rfl) trivial (fun h0 => ?_)
  refine hTakeS (i := 0) (k := 14) (v := .pointer (some ⟨w.heap.size, 0, none⟩)) rfl rfl (by kernel_rfl) (by kernel_rfl) (by kernel_rfl) (fun _ _ _ h => h) (yieldsIf_val (by rfl) (by intro W; go_simp)) h0 ?_
  simp only [List.setIfInBounds_toArray, List.set_cons_zero, List.set_cons_succ]
  refine hTakeS (i := 1) (k := 15) (v := .int .i64 1) rfl rfl (by kernel_rfl) (by kernel_rfl) (by kernel_rfl) (fun _ _ _ h => h) (yieldsIf_val (by rfl) (by intro W; go_simp)) h0 ?_
  simp only [List.setIfInBounds_toArray, List.set_cons_zero, List.set_cons_succ]
  refine hTakeS (i := 2) (k := 16) (v := .int .i64 1) rfl rfl (by kernel_rfl) (by kernel_rfl) (by kernel_rfl) (fun _ _ _ h => h) (yieldsIf_val (by rfl) (by intro W; go_simp)) h0 ?_
  simp only [List.setIfInBounds_toArray, List.set_cons_zero, List.set_cons_succ]
  refine hTakeS (i := 4) (k := 18) (v := .pointer (some ⟨w.heap.size, 0, none⟩)) rfl rfl (by kernel_rfl) (by kernel_rfl) (by kernel_rfl) (fun _ _ _ h => h) (yieldsIf_val (by rfl) (by intro W; go_simp)) h0 ?_
  simp only [List.setIfInBounds_toArray, List.set_cons_zero, List.set_cons_succ]
  refine hTakeS (i := 5) (k := 19) (v := .pointer (some ⟨w.heap.size, 0, none⟩)) rfl rfl (by kernel_rfl) (by kernel_rfl) (by kernel_rfl) (fun _ _ _ h => h) (yieldsIf_val (by rfl) (by intro W; go_simp)) h0 ?_
  simp only [List.setIfInBounds_toArray, List.set_cons_zero, List.set_cons_succ]
  refine hCallR (i := 3) (k := 17) (by kernel_rfl) rfl rfl (by rfl) 22 #[.int .i64 1] (by go_simp) (HN.out _ _) ?_
  rintro e w2 ⟨b1, rfl, hl1, hc1, hb1⟩
  refine ⟨_, rfl, trivial, ?_⟩
  simp only [List.setIfInBounds_toArray, List.set_cons_zero, List.set_cons_succ]
  have hx1 : w2.heap[w.heap.size]? = some (.cells #[.pointer (some ⟨b0, 0, none⟩), .pointer none, .int .i64 x, .bool false, .int .i64 (-1)] 121 (0, 0)) := (hb1.block _ (lt_of_heap Y0.out)).trans Y0.out
  refine hTakeS (i := 6) (k := 20) (v := .pointer (some ⟨w.heap.size, 1, none⟩)) rfl rfl (by kernel_rfl) (by kernel_rfl) (by kernel_rfl) (fun _ _ _ h => h) (yieldsIf_val (by rfl) (by intro W; go_simp)) trivial ?_
  simp only [List.setIfInBounds_toArray, List.set_cons_zero, List.set_cons_succ]
  have fz1 : w2.frozen? ⟨w.heap.size, 1, none⟩ = false := frozen_of_row _ _ _ _ _ hx1
  have cz1 : w2.cell? ⟨w.heap.size, 1, none⟩ = some (.pointer none) := cell_of_row _ _ _ _ _ _ hx1
  refine hOneNS (i := 7) (w' := (w2.setCell ⟨w.heap.size, 1, none⟩ (.pointer (some ⟨b1, 0, none⟩)))) (by kernel_rfl) rfl rfl (by rfl) (by go_simp) trivial ?_
  refine wpAnyH_done (by kernel_rfl) ?_ _
  have Y1 := Lib.hid (show (w2.setCell ⟨w.heap.size, 1, none⟩ (.pointer (some ⟨b1, 0, none⟩))).heap[w.heap.size]? = some (.cells #[.pointer (some ⟨b0, 0, none⟩), .pointer (some ⟨b1, 0, none⟩), .int .i64 x, .bool false, .int .i64 (-1)] 121 (0, 0)) from heap_setCell_same w2 w.heap.size 1 _ _ _ hx1)
  have YB1 := Lib.hid (bSet (bTr (bDr1 YB0.out) hb1) ⟨w.heap.size, 1, none⟩ (Nat.le_refl _) (.pointer (some ⟨b1, 0, none⟩)))
  have c0 := C0.out.below (bDr1 (bRef X))
  have hs1 : w.heap.size < w2.heap.size := lt_of_heap hx1
  have hn1 : b1 ≠ w.heap.size := by have := hl1; have := lt_of_heap Y0.out; simp at *; omega
  have hne : b0 ≠ b1 := by have := hl1; have := C0.out.lt; simp at *; omega
  have C0' := Lib.hid (((C0.out.below (bDr1 (bRef X))).below hb1).but (set_but (ButB.refl w.heap.size w2) 1 (.pointer (some ⟨b1, 0, none⟩))) hn0)
  have C1 := Lib.hid (hc1.but (set_but (ButB.refl w.heap.size w2) 1 (.pointer (some ⟨b1, 0, none⟩))) hn1)
  have L1 := Lib.hid (show w.heap.size ≤ b1 from by have := hl1; have := lt_of_heap Y0.out; simp at *; omega)
  clear hx1 fz1 cz1 hl1 hc1 hb1 hs1 c0
  go_wp2_with fail
  rw [rounds_succ]
  generalize w2.setCell ⟨w.heap.size, 1, none⟩ (.pointer (some ⟨b1, 0, none⟩)) = Y at *
  go_wp2_with fail
  go_ret2
  exact ⟨w.heap.size, b0, b1, rfl, Nat.le_refl _, L0.out, L1.out, ⟨Y1.out, C0'.out, C1.out, hne⟩, YB1.out⟩

end Go.Proofs.Ytfeoppbincldfaa
