/- Package sync: arrival, Follow, whole. -/
import Derived.Test.YtfeoppbincldfaaPsSy
namespace Go.Proofs.Ytfeoppbincldfaa
open Go.RowKit Go.Joins

/-- The domain's time when a Sync came, or why there is none. -/
def arE (corr time delay r : Int) : Int :=
  if InB (time + corr) = true then (if rE r delay 2199023255552 = 0 then fitE (time + corr + rV r delay 2199023255552) else rE r delay 2199023255552) else 10
def arV (corr time delay r : Int) : Int :=
  if InB (time + corr) = true then (if rE r delay 2199023255552 = 0 then fitV (time + corr + rV r delay 2199023255552) else 0) else 0
theorem arV_64 (corr time delay r : Int) : In64 (arV corr time delay r) := by
  unfold arV
  split
  · split
    · exact fitV_64 _
    · exact in64_0
  · exact in64_0
theorem arrival_any (m : Mg) (v : Value) (ic : In64 m.corr) (ti : In64 m.time) {delay r : Int} (id : In64 delay) (ir : In64 r) (w : World) : Calls Try.prog 54 #[.agg (MC m v), .int .i64 delay, .int .i64 r] w fun e w' => e = .returned (.tuple #[.int .i64 (arV m.corr m.time delay r), .int .i64 (arE m.corr m.time delay r)]) ∧ Below w.heap.size w w' := by
  have H1 := sAdd_ret ti ic
  unfold Fit at H1
  unfold arV arE
  have H2 := by_ret id ir
  have i64 := rV_64 r delay 2199023255552
  unfold MC
  cases hd : InB (m.time + m.corr) with
  | false =>
    rw [(fit_no hd).1, (fit_no hd).2] at H1
    replace H1 := Lib.hid H1
    rw [if_neg (by decide), if_neg (by decide)]
    clear H2 i64 hd
    go_enter Try.func54, Try.ntmps54
    go_wp2_with (first
      | (go_at_call 49; (with_reducible refine (H1.out.go _).mono ?_); rintro e w1 ⟨rfl, hb⟩; have HB1 := Lib.hid (bTr (bAl (bRef w) _) hb); clear hb))
    go_ret2
    exact ⟨rfl, HB1.out⟩
  | true =>
    rw [(fit_yes hd).1, (fit_yes hd).2] at H1
    replace H1 := Lib.hid H1
    rw [if_pos rfl, if_pos rfl]
    have iz := inB_true hd
    clear hd
    generalize m.time + m.corr = z at *
    generalize rE r delay 2199023255552 = q at *
    generalize rV r delay 2199023255552 = d at *
    replace H2 := Lib.hid H2
    by_cases hq : q = 0
    · subst hq
      rw [if_pos rfl, if_pos rfl]
      have H3 := sAdd_ret iz i64
      unfold Fit at H3
      replace H3 := Lib.hid H3
      clear iz i64
      generalize fitV (z + d) = fv at *
      generalize fitE (z + d) = fe at *
      go_enter Try.func54, Try.ntmps54
      go_wp2_with (first
        | (go_at_call 49; (with_reducible refine (H1.out.go _).mono ?_); rintro e w1 ⟨rfl, hb⟩; have HB1 := Lib.hid (bTr (bAl (bRef w) _) hb); clear hb)
        | (go_at_call 47; (with_reducible refine (H2.out.go _).mono ?_); rintro e w2 ⟨rfl, hb⟩; have HB2 := Lib.hid (bTr HB1.out hb); clear hb)
        | (go_at_call 49; (with_reducible refine (H3.out.go _).mono ?_); rintro e w3 ⟨rfl, hb⟩; have HB3 := Lib.hid (bTr HB2.out hb); clear hb))
      go_ret2
      exact ⟨rfl, HB3.out⟩
    · rw [if_neg hq, if_neg hq]
      have d1 : (q != 0) = true := by rw [bne_iff_ne]; exact hq
      have d2 : (q == 0) = false := by rw [beq_eq_false_iff_ne]; exact hq
      clear hq iz i64
      go_enter Try.func54, Try.ntmps54
      go_wp2_with (first
        | (go_at_call 49; (with_reducible refine (H1.out.go _).mono ?_); rintro e w1 ⟨rfl, hb⟩; have HB1 := Lib.hid (bTr (bAl (bRef w) _) hb); clear hb)
        | (go_at_call 47; (with_reducible refine (H2.out.go _).mono ?_); rintro e w2 ⟨rfl, hb⟩; have HB2 := Lib.hid (bTr HB1.out hb); clear hb))
      go_ret2
      exact ⟨rfl, HB2.out⟩
section
variable {w : World} {b : Nat} {s : CS}
set_option maxRecDepth 20000 in
set_option maxHeartbeats 4000000 in
theorem follow_no (h : Ck w b s) (m : Mg) (v : Value) (delay ratio : Int) (hT : ∀ W, Below w.heap.size w W → Calls Try.prog 51 #[.pointer (some ⟨b, 0, none⟩), .agg (MC m v), .int .i64 8] W fun e w' => e = .returned (.bool false) ∧ Below W.heap.size W w') : Calls Try.prog 29 #[.pointer (some ⟨b, 0, none⟩), .agg (MC m v), .int .i64 delay, .int .i64 ratio] w fun e w' => e = .returned (.int .i64 31) ∧ Below w.heap.size w w' := by
  have hb0 := bAl (bRef w) (.cells (MC m v) 37)
  have HT2 := Lib.hid (hT _ (bDr1 hb0))
  have hr := heap_alloc_new w (.cells (MC m v) 37)
  have HR := Lib.hid hr
  have H := Lib.hid (h.below hb0)
  have HB0 := Lib.hid hb0
  have hlt := h.lt
  have hne : w.heap.size ≠ b := by omega
  have HS : Hid ((fun V => V.cell? ⟨b, 6, none⟩ = some (.bool s.opn) ∧ V.cell? ⟨b, 7, none⟩ = some (.int .i64 s.seq) ∧ V.cell? ⟨b, 8, none⟩ = some (.int .i64 s.src) ∧ V.heap[w.heap.size]? = some (.cells (MC m v) 37 (0, 0))) (w.alloc (.cells (MC m v) 37)).drew) := Lib.hid ⟨(h.below hb0).c6, (h.below hb0).c7, (h.below hb0).c8, hr⟩
  clear h hT hb0 hr
  unfold MC
  go_enter Try.func29, Try.ntmps29
  go_wp2_with fail
  refine wp_region_held_drew (S := fun V => V.cell? ⟨b, 6, none⟩ = some (.bool s.opn) ∧ V.cell? ⟨b, 7, none⟩ = some (.int .i64 s.seq) ∧ V.cell? ⟨b, 8, none⟩ = some (.int .i64 s.src) ∧ V.heap[w.heap.size]? = some (.cells (MC m v) 37 (0, 0))) (by kernel_rfl) HS.out (fun h0 => ?_)
  refine hTakeS (i := 0) (k := 13) (v := .pointer (some ⟨b, 0, none⟩)) rfl rfl (by kernel_rfl) (by kernel_rfl) (by kernel_rfl) (fun _ _ _ h => h) (yieldsIf_val (by rfl) (by intro W; go_simp)) h0 ?_
  simp only [List.setIfInBounds_toArray, List.set_cons_zero, List.set_cons_succ]
  refine hTakeS (i := 1) (k := 14) (v := .agg (MC m v)) rfl rfl (by kernel_rfl) (by kernel_rfl) (by kernel_rfl) (fun _ _ _ h => h) (.inl ⟨by rfl, fun W hW => load_opM _ rfl w.heap.size rfl (MC m v) _ W hW.2.2.2 rfl⟩) h0 ?_
  simp only [List.setIfInBounds_toArray, List.set_cons_zero, List.set_cons_succ]
  refine hCallR (i := 2) (k := 15) (by kernel_rfl) rfl rfl (by rfl) 51 #[.pointer (some ⟨b, 0, none⟩), .agg (MC m v), .int .i64 8] (by go_simp) (HT2.out) ?_
  rintro e w1 ⟨rfl, hb⟩
  have hB1 := bTr (bDr1 HB0.out) hb
  have hc1 := H.out.drew.below hb
  have h1 : (fun V => V.cell? ⟨b, 6, none⟩ = some (.bool s.opn) ∧ V.cell? ⟨b, 7, none⟩ = some (.int .i64 s.seq) ∧ V.cell? ⟨b, 8, none⟩ = some (.int .i64 s.src) ∧ V.heap[w.heap.size]? = some (.cells (MC m v) 37 (0, 0))) w1 := ⟨(hb.cell (block_lt_cell h0.1)).trans h0.1, (hb.cell (block_lt_cell h0.2.1)).trans h0.2.1, (hb.cell (block_lt_cell h0.2.2.1)).trans h0.2.2.1, (hb.block _ (lt_of_heap h0.2.2.2)).trans h0.2.2.2⟩
  clear hb
  refine ⟨_, rfl, h1, ?_⟩
  simp only [List.setIfInBounds_toArray, List.set_cons_zero, List.set_cons_succ]
  refine hTakeS (i := 3) (k := 16) (v := .bool true) rfl rfl (by kernel_rfl) (by kernel_rfl) (by kernel_rfl) (fun _ _ _ h => h) (yieldsIf_val (by rfl) (by intro W; go_simp)) h1 ?_
  simp only [List.setIfInBounds_toArray, List.set_cons_zero, List.set_cons_succ]
  refine hTakeS (i := 4) (k := 17) (v := .bool true) rfl rfl (by kernel_rfl) (by kernel_rfl) (by kernel_rfl) (fun _ _ _ h => h) (yieldsIf_val (by rfl) (by intro W; go_simp)) h1 ?_
  simp only [List.setIfInBounds_toArray, List.set_cons_zero, List.set_cons_succ]
  refine hTakeS (i := 5) (k := 18) (v := undef) rfl rfl (by kernel_rfl) (by kernel_rfl) (by kernel_rfl) (fun _ _ _ h => h) (yieldsIf_skip (by rfl)) h1 ?_
  simp only [List.setIfInBounds_toArray, List.set_cons_zero, List.set_cons_succ]
  refine hTakeS (i := 6) (k := 19) (v := undef) rfl rfl (by kernel_rfl) (by kernel_rfl) (by kernel_rfl) (fun _ _ _ h => h) (yieldsIf_skip (by rfl)) h1 ?_
  simp only [List.setIfInBounds_toArray, List.set_cons_zero, List.set_cons_succ]
  refine hTakeS (i := 7) (k := 20) (v := undef) rfl rfl (by kernel_rfl) (by kernel_rfl) (by kernel_rfl) (fun _ _ _ h => h) (yieldsIf_skip (by rfl)) h1 ?_
  simp only [List.setIfInBounds_toArray, List.set_cons_zero, List.set_cons_succ]
  refine hTakeS (i := 8) (k := 21) (v := undef) rfl rfl (by kernel_rfl) (by kernel_rfl) (by kernel_rfl) (fun _ _ _ h => h) (yieldsIf_skip (by rfl)) h1 ?_
  simp only [List.setIfInBounds_toArray, List.set_cons_zero, List.set_cons_succ]
  refine hTakeS (i := 9) (k := 22) (v := undef) rfl rfl (by kernel_rfl) (by kernel_rfl) (by kernel_rfl) (fun _ _ _ h => h) (yieldsIf_skip (by rfl)) h1 ?_
  simp only [List.setIfInBounds_toArray, List.set_cons_zero, List.set_cons_succ]
  refine hTakeS (i := 10) (k := 23) (v := .bool true) rfl rfl (by kernel_rfl) (by kernel_rfl) (by kernel_rfl) (fun _ _ _ h => h) (yieldsIf_val (by rfl) (by intro W; go_simp)) h1 ?_
  simp only [List.setIfInBounds_toArray, List.set_cons_zero, List.set_cons_succ]
  refine hTakeS (i := 11) (k := 24) (v := .bool true) rfl rfl (by kernel_rfl) (by kernel_rfl) (by kernel_rfl) (fun _ _ _ h => h) (yieldsIf_val (by rfl) (by intro W; go_simp)) h1 ?_
  simp only [List.setIfInBounds_toArray, List.set_cons_zero, List.set_cons_succ]
  refine hTakeS (i := 12) (k := 25) (v := undef) rfl rfl (by kernel_rfl) (by kernel_rfl) (by kernel_rfl) (fun _ _ _ h => h) (yieldsIf_skip (by rfl)) h1 ?_
  simp only [List.setIfInBounds_toArray, List.set_cons_zero, List.set_cons_succ]
  refine hTakeS (i := 13) (k := 26) (v := undef) rfl rfl (by kernel_rfl) (by kernel_rfl) (by kernel_rfl) (fun _ _ _ h => h) (yieldsIf_skip (by rfl)) h1 ?_
  simp only [List.setIfInBounds_toArray, List.set_cons_zero, List.set_cons_succ]
  refine hTakeS (i := 14) (k := 27) (v := undef) rfl rfl (by kernel_rfl) (by kernel_rfl) (by kernel_rfl) (fun _ _ _ h => h) (yieldsIf_skip (by rfl)) h1 ?_
  simp only [List.setIfInBounds_toArray, List.set_cons_zero, List.set_cons_succ]
  refine hTakeS (i := 15) (k := 28) (v := undef) rfl rfl (by kernel_rfl) (by kernel_rfl) (by kernel_rfl) (fun _ _ _ h => h) (yieldsIf_skip (by rfl)) h1 ?_
  simp only [List.setIfInBounds_toArray, List.set_cons_zero, List.set_cons_succ]
  refine hTakeS (i := 16) (k := 29) (v := undef) rfl rfl (by kernel_rfl) (by kernel_rfl) (by kernel_rfl) (fun _ _ _ h => h) (yieldsIf_skip (by rfl)) h1 ?_
  simp only [List.setIfInBounds_toArray, List.set_cons_zero, List.set_cons_succ]
  refine hTakeS (i := 17) (k := 30) (v := undef) rfl rfl (by kernel_rfl) (by kernel_rfl) (by kernel_rfl) (fun _ _ _ h => h) (yieldsIf_skip (by rfl)) h1 ?_
  simp only [List.setIfInBounds_toArray, List.set_cons_zero, List.set_cons_succ]
  refine hTakeS (i := 18) (k := 31) (v := undef) rfl rfl (by kernel_rfl) (by kernel_rfl) (by kernel_rfl) (fun _ _ _ h => h) (yieldsIf_skip (by rfl)) h1 ?_
  simp only [List.setIfInBounds_toArray, List.set_cons_zero, List.set_cons_succ]
  refine hTakeS (i := 19) (k := 32) (v := .bool true) rfl rfl (by kernel_rfl) (by kernel_rfl) (by kernel_rfl) (fun _ _ _ h => h) (yieldsIf_val (by rfl) (by intro W; go_simp)) h1 ?_
  simp only [List.setIfInBounds_toArray, List.set_cons_zero, List.set_cons_succ]
  refine hTakeS (i := 20) (k := 33) (v := .bool true) rfl rfl (by kernel_rfl) (by kernel_rfl) (by kernel_rfl) (fun _ _ _ h => h) (yieldsIf_val (by rfl) (by intro W; go_simp)) h1 ?_
  simp only [List.setIfInBounds_toArray, List.set_cons_zero, List.set_cons_succ]
  refine hTakeS (i := 21) (k := 34) (v := undef) rfl rfl (by kernel_rfl) (by kernel_rfl) (by kernel_rfl) (fun _ _ _ h => h) (yieldsIf_skip (by rfl)) h1 ?_
  simp only [List.setIfInBounds_toArray, List.set_cons_zero, List.set_cons_succ]
  refine hTakeS (i := 22) (k := 35) (v := undef) rfl rfl (by kernel_rfl) (by kernel_rfl) (by kernel_rfl) (fun _ _ _ h => h) (yieldsIf_skip (by rfl)) h1 ?_
  simp only [List.setIfInBounds_toArray, List.set_cons_zero, List.set_cons_succ]
  refine hTakeS (i := 23) (k := 36) (v := undef) rfl rfl (by kernel_rfl) (by kernel_rfl) (by kernel_rfl) (fun _ _ _ h => h) (yieldsIf_skip (by rfl)) h1 ?_
  simp only [List.setIfInBounds_toArray, List.set_cons_zero, List.set_cons_succ]
  refine hTakeS (i := 24) (k := 37) (v := undef) rfl rfl (by kernel_rfl) (by kernel_rfl) (by kernel_rfl) (fun _ _ _ h => h) (yieldsIf_skip (by rfl)) h1 ?_
  simp only [List.setIfInBounds_toArray, List.set_cons_zero, List.set_cons_succ]
  refine hTakeS (i := 25) (k := 38) (v := undef) rfl rfl (by kernel_rfl) (by kernel_rfl) (by kernel_rfl) (fun _ _ _ h => h) (yieldsIf_skip (by rfl)) h1 ?_
  simp only [List.setIfInBounds_toArray, List.set_cons_zero, List.set_cons_succ]
  refine hTakeS (i := 26) (k := 39) (v := undef) rfl rfl (by kernel_rfl) (by kernel_rfl) (by kernel_rfl) (fun _ _ _ h => h) (yieldsIf_skip (by rfl)) h1 ?_
  simp only [List.setIfInBounds_toArray, List.set_cons_zero, List.set_cons_succ]
  refine hTakeS (i := 27) (k := 40) (v := undef) rfl rfl (by kernel_rfl) (by kernel_rfl) (by kernel_rfl) (fun _ _ _ h => h) (yieldsIf_skip (by rfl)) h1 ?_
  simp only [List.setIfInBounds_toArray, List.set_cons_zero, List.set_cons_succ]
  refine hTakeS (i := 28) (k := 41) (v := .bool true) rfl rfl (by kernel_rfl) (by kernel_rfl) (by kernel_rfl) (fun _ _ _ h => h) (yieldsIf_val (by rfl) (by intro W; go_simp)) h1 ?_
  simp only [List.setIfInBounds_toArray, List.set_cons_zero, List.set_cons_succ]
  refine wpAnyH_done (by kernel_rfl) ?_ _
  go_wp2_with fail
  go_ret
  exact ⟨rfl, hB1⟩
set_option maxRecDepth 20000 in
set_option maxHeartbeats 4000000 in
theorem follow_shut (h : Ck w b s) (m : Mg) (v : Value) (delay ratio : Int) (hT : ∀ W, Below w.heap.size w W → Calls Try.prog 51 #[.pointer (some ⟨b, 0, none⟩), .agg (MC m v), .int .i64 8] W fun e w' => e = .returned (.bool true) ∧ Below W.heap.size W w') (hop : s.opn = false) : Calls Try.prog 29 #[.pointer (some ⟨b, 0, none⟩), .agg (MC m v), .int .i64 delay, .int .i64 ratio] w fun e w' => e = .returned (.int .i64 31) ∧ Below w.heap.size w w' := by
  have hb0 := bAl (bRef w) (.cells (MC m v) 37)
  have HT2 := Lib.hid (hT _ (bDr1 hb0))
  have hr := heap_alloc_new w (.cells (MC m v) 37)
  have HR := Lib.hid hr
  have H := Lib.hid (h.below hb0)
  have HB0 := Lib.hid hb0
  have hlt := h.lt
  have hne : w.heap.size ≠ b := by omega
  have HS : Hid ((fun V => V.cell? ⟨b, 6, none⟩ = some (.bool s.opn) ∧ V.cell? ⟨b, 7, none⟩ = some (.int .i64 s.seq) ∧ V.cell? ⟨b, 8, none⟩ = some (.int .i64 s.src) ∧ V.heap[w.heap.size]? = some (.cells (MC m v) 37 (0, 0))) (w.alloc (.cells (MC m v) 37)).drew) := Lib.hid ⟨(h.below hb0).c6, (h.below hb0).c7, (h.below hb0).c8, hr⟩
  clear h hT hb0 hr
  unfold MC
  go_enter Try.func29, Try.ntmps29
  go_wp2_with fail
  refine wp_region_held_drew (S := fun V => V.cell? ⟨b, 6, none⟩ = some (.bool s.opn) ∧ V.cell? ⟨b, 7, none⟩ = some (.int .i64 s.seq) ∧ V.cell? ⟨b, 8, none⟩ = some (.int .i64 s.src) ∧ V.heap[w.heap.size]? = some (.cells (MC m v) 37 (0, 0))) (by kernel_rfl) HS.out (fun h0 => ?_)
  refine hTakeS (i := 0) (k := 13) (v := .pointer (some ⟨b, 0, none⟩)) rfl rfl (by kernel_rfl) (by kernel_rfl) (by kernel_rfl) (fun _ _ _ h => h) (yieldsIf_val (by rfl) (by intro W; go_simp)) h0 ?_
  simp only [List.setIfInBounds_toArray, List.set_cons_zero, List.set_cons_succ]
  refine hTakeS (i := 1) (k := 14) (v := .agg (MC m v)) rfl rfl (by kernel_rfl) (by kernel_rfl) (by kernel_rfl) (fun _ _ _ h => h) (.inl ⟨by rfl, fun W hW => load_opM _ rfl w.heap.size rfl (MC m v) _ W hW.2.2.2 rfl⟩) h0 ?_
  simp only [List.setIfInBounds_toArray, List.set_cons_zero, List.set_cons_succ]
  refine hCallR (i := 2) (k := 15) (by kernel_rfl) rfl rfl (by rfl) 51 #[.pointer (some ⟨b, 0, none⟩), .agg (MC m v), .int .i64 8] (by go_simp) (HT2.out) ?_
  rintro e w1 ⟨rfl, hb⟩
  have hB1 := bTr (bDr1 HB0.out) hb
  have hc1 := H.out.drew.below hb
  have h1 : (fun V => V.cell? ⟨b, 6, none⟩ = some (.bool s.opn) ∧ V.cell? ⟨b, 7, none⟩ = some (.int .i64 s.seq) ∧ V.cell? ⟨b, 8, none⟩ = some (.int .i64 s.src) ∧ V.heap[w.heap.size]? = some (.cells (MC m v) 37 (0, 0))) w1 := ⟨(hb.cell (block_lt_cell h0.1)).trans h0.1, (hb.cell (block_lt_cell h0.2.1)).trans h0.2.1, (hb.cell (block_lt_cell h0.2.2.1)).trans h0.2.2.1, (hb.block _ (lt_of_heap h0.2.2.2)).trans h0.2.2.2⟩
  clear hb
  refine ⟨_, rfl, h1, ?_⟩
  simp only [List.setIfInBounds_toArray, List.set_cons_zero, List.set_cons_succ]
  refine hTakeS (i := 3) (k := 16) (v := .bool false) rfl rfl (by kernel_rfl) (by kernel_rfl) (by kernel_rfl) (fun _ _ _ h => h) (yieldsIf_val (by rfl) (by intro W; go_simp)) h1 ?_
  simp only [List.setIfInBounds_toArray, List.set_cons_zero, List.set_cons_succ]
  refine hTakeS (i := 4) (k := 17) (v := .bool false) rfl rfl (by kernel_rfl) (by kernel_rfl) (by kernel_rfl) (fun _ _ _ h => h) (yieldsIf_val (by rfl) (by intro W; go_simp)) h1 ?_
  simp only [List.setIfInBounds_toArray, List.set_cons_zero, List.set_cons_succ]
  refine hTakeS (i := 5) (k := 18) (v := .pointer (some ⟨b, 0, none⟩)) rfl rfl (by kernel_rfl) (by kernel_rfl) (by kernel_rfl) (fun _ _ _ h => h) (yieldsIf_val (by rfl) (by intro W; go_simp)) h1 ?_
  simp only [List.setIfInBounds_toArray, List.set_cons_zero, List.set_cons_succ]
  refine hTakeS (i := 6) (k := 19) (v := .pointer (some ⟨b, 0, none⟩)) rfl rfl (by kernel_rfl) (by kernel_rfl) (by kernel_rfl) (fun _ _ _ h => h) (yieldsIf_val (by rfl) (by intro W; go_simp)) h1 ?_
  simp only [List.setIfInBounds_toArray, List.set_cons_zero, List.set_cons_succ]
  refine hTakeS (i := 7) (k := 20) (v := .pointer (some ⟨b, 6, none⟩)) rfl rfl (by kernel_rfl) (by kernel_rfl) (by kernel_rfl) (fun _ _ _ h => h) (yieldsIf_val (by rfl) (by intro W; go_simp)) h1 ?_
  simp only [List.setIfInBounds_toArray, List.set_cons_zero, List.set_cons_succ]
  refine hTakeS (i := 8) (k := 21) (v := .bool false) rfl rfl (by kernel_rfl) (by kernel_rfl) (by kernel_rfl) (fun _ _ _ h => h) (.inl ⟨by rfl, fun W hW => by obtain ⟨b6, b7, b8, br⟩ := hW; rw [hop] at b6; go_simp⟩) h1 ?_
  simp only [List.setIfInBounds_toArray, List.set_cons_zero, List.set_cons_succ]
  refine hTakeS (i := 9) (k := 22) (v := .bool true) rfl rfl (by kernel_rfl) (by kernel_rfl) (by kernel_rfl) (fun _ _ _ h => h) (yieldsIf_val (by rfl) (by intro W; go_simp)) h1 ?_
  simp only [List.setIfInBounds_toArray, List.set_cons_zero, List.set_cons_succ]
  refine hTakeS (i := 10) (k := 23) (v := .bool true) rfl rfl (by kernel_rfl) (by kernel_rfl) (by kernel_rfl) (fun _ _ _ h => h) (yieldsIf_val (by rfl) (by intro W; go_simp)) h1 ?_
  simp only [List.setIfInBounds_toArray, List.set_cons_zero, List.set_cons_succ]
  refine hTakeS (i := 11) (k := 24) (v := .bool true) rfl rfl (by kernel_rfl) (by kernel_rfl) (by kernel_rfl) (fun _ _ _ h => h) (yieldsIf_val (by rfl) (by intro W; go_simp)) h1 ?_
  simp only [List.setIfInBounds_toArray, List.set_cons_zero, List.set_cons_succ]
  refine hTakeS (i := 12) (k := 25) (v := undef) rfl rfl (by kernel_rfl) (by kernel_rfl) (by kernel_rfl) (fun _ _ _ h => h) (yieldsIf_skip (by rfl)) h1 ?_
  simp only [List.setIfInBounds_toArray, List.set_cons_zero, List.set_cons_succ]
  refine hTakeS (i := 13) (k := 26) (v := undef) rfl rfl (by kernel_rfl) (by kernel_rfl) (by kernel_rfl) (fun _ _ _ h => h) (yieldsIf_skip (by rfl)) h1 ?_
  simp only [List.setIfInBounds_toArray, List.set_cons_zero, List.set_cons_succ]
  refine hTakeS (i := 14) (k := 27) (v := undef) rfl rfl (by kernel_rfl) (by kernel_rfl) (by kernel_rfl) (fun _ _ _ h => h) (yieldsIf_skip (by rfl)) h1 ?_
  simp only [List.setIfInBounds_toArray, List.set_cons_zero, List.set_cons_succ]
  refine hTakeS (i := 15) (k := 28) (v := undef) rfl rfl (by kernel_rfl) (by kernel_rfl) (by kernel_rfl) (fun _ _ _ h => h) (yieldsIf_skip (by rfl)) h1 ?_
  simp only [List.setIfInBounds_toArray, List.set_cons_zero, List.set_cons_succ]
  refine hTakeS (i := 16) (k := 29) (v := undef) rfl rfl (by kernel_rfl) (by kernel_rfl) (by kernel_rfl) (fun _ _ _ h => h) (yieldsIf_skip (by rfl)) h1 ?_
  simp only [List.setIfInBounds_toArray, List.set_cons_zero, List.set_cons_succ]
  refine hTakeS (i := 17) (k := 30) (v := undef) rfl rfl (by kernel_rfl) (by kernel_rfl) (by kernel_rfl) (fun _ _ _ h => h) (yieldsIf_skip (by rfl)) h1 ?_
  simp only [List.setIfInBounds_toArray, List.set_cons_zero, List.set_cons_succ]
  refine hTakeS (i := 18) (k := 31) (v := undef) rfl rfl (by kernel_rfl) (by kernel_rfl) (by kernel_rfl) (fun _ _ _ h => h) (yieldsIf_skip (by rfl)) h1 ?_
  simp only [List.setIfInBounds_toArray, List.set_cons_zero, List.set_cons_succ]
  refine hTakeS (i := 19) (k := 32) (v := .bool true) rfl rfl (by kernel_rfl) (by kernel_rfl) (by kernel_rfl) (fun _ _ _ h => h) (yieldsIf_val (by rfl) (by intro W; go_simp)) h1 ?_
  simp only [List.setIfInBounds_toArray, List.set_cons_zero, List.set_cons_succ]
  refine hTakeS (i := 20) (k := 33) (v := .bool true) rfl rfl (by kernel_rfl) (by kernel_rfl) (by kernel_rfl) (fun _ _ _ h => h) (yieldsIf_val (by rfl) (by intro W; go_simp)) h1 ?_
  simp only [List.setIfInBounds_toArray, List.set_cons_zero, List.set_cons_succ]
  refine hTakeS (i := 21) (k := 34) (v := undef) rfl rfl (by kernel_rfl) (by kernel_rfl) (by kernel_rfl) (fun _ _ _ h => h) (yieldsIf_skip (by rfl)) h1 ?_
  simp only [List.setIfInBounds_toArray, List.set_cons_zero, List.set_cons_succ]
  refine hTakeS (i := 22) (k := 35) (v := undef) rfl rfl (by kernel_rfl) (by kernel_rfl) (by kernel_rfl) (fun _ _ _ h => h) (yieldsIf_skip (by rfl)) h1 ?_
  simp only [List.setIfInBounds_toArray, List.set_cons_zero, List.set_cons_succ]
  refine hTakeS (i := 23) (k := 36) (v := undef) rfl rfl (by kernel_rfl) (by kernel_rfl) (by kernel_rfl) (fun _ _ _ h => h) (yieldsIf_skip (by rfl)) h1 ?_
  simp only [List.setIfInBounds_toArray, List.set_cons_zero, List.set_cons_succ]
  refine hTakeS (i := 24) (k := 37) (v := undef) rfl rfl (by kernel_rfl) (by kernel_rfl) (by kernel_rfl) (fun _ _ _ h => h) (yieldsIf_skip (by rfl)) h1 ?_
  simp only [List.setIfInBounds_toArray, List.set_cons_zero, List.set_cons_succ]
  refine hTakeS (i := 25) (k := 38) (v := undef) rfl rfl (by kernel_rfl) (by kernel_rfl) (by kernel_rfl) (fun _ _ _ h => h) (yieldsIf_skip (by rfl)) h1 ?_
  simp only [List.setIfInBounds_toArray, List.set_cons_zero, List.set_cons_succ]
  refine hTakeS (i := 26) (k := 39) (v := undef) rfl rfl (by kernel_rfl) (by kernel_rfl) (by kernel_rfl) (fun _ _ _ h => h) (yieldsIf_skip (by rfl)) h1 ?_
  simp only [List.setIfInBounds_toArray, List.set_cons_zero, List.set_cons_succ]
  refine hTakeS (i := 27) (k := 40) (v := undef) rfl rfl (by kernel_rfl) (by kernel_rfl) (by kernel_rfl) (fun _ _ _ h => h) (yieldsIf_skip (by rfl)) h1 ?_
  simp only [List.setIfInBounds_toArray, List.set_cons_zero, List.set_cons_succ]
  refine hTakeS (i := 28) (k := 41) (v := .bool true) rfl rfl (by kernel_rfl) (by kernel_rfl) (by kernel_rfl) (fun _ _ _ h => h) (yieldsIf_val (by rfl) (by intro W; go_simp)) h1 ?_
  simp only [List.setIfInBounds_toArray, List.set_cons_zero, List.set_cons_succ]
  refine wpAnyH_done (by kernel_rfl) ?_ _
  go_wp2_with fail
  go_ret
  exact ⟨rfl, hB1⟩
set_option maxRecDepth 20000 in
set_option maxHeartbeats 4000000 in
theorem follow_seq (h : Ck w b s) (m : Mg) (v : Value) (delay ratio : Int) (hT : ∀ W, Below w.heap.size w W → Calls Try.prog 51 #[.pointer (some ⟨b, 0, none⟩), .agg (MC m v), .int .i64 8] W fun e w' => e = .returned (.bool true) ∧ Below W.heap.size W w') (hop : s.opn = true) (hq : (m.seq != s.seq) = true) : Calls Try.prog 29 #[.pointer (some ⟨b, 0, none⟩), .agg (MC m v), .int .i64 delay, .int .i64 ratio] w fun e w' => e = .returned (.int .i64 31) ∧ Below w.heap.size w w' := by
  have hb0 := bAl (bRef w) (.cells (MC m v) 37)
  have HT2 := Lib.hid (hT _ (bDr1 hb0))
  have hr := heap_alloc_new w (.cells (MC m v) 37)
  have HR := Lib.hid hr
  have H := Lib.hid (h.below hb0)
  have HB0 := Lib.hid hb0
  have hlt := h.lt
  have hne : w.heap.size ≠ b := by omega
  have HS : Hid ((fun V => V.cell? ⟨b, 6, none⟩ = some (.bool s.opn) ∧ V.cell? ⟨b, 7, none⟩ = some (.int .i64 s.seq) ∧ V.cell? ⟨b, 8, none⟩ = some (.int .i64 s.src) ∧ V.heap[w.heap.size]? = some (.cells (MC m v) 37 (0, 0))) (w.alloc (.cells (MC m v) 37)).drew) := Lib.hid ⟨(h.below hb0).c6, (h.below hb0).c7, (h.below hb0).c8, hr⟩
  clear h hT hb0 hr
  unfold MC
  go_enter Try.func29, Try.ntmps29
  go_wp2_with fail
  refine wp_region_held_drew (S := fun V => V.cell? ⟨b, 6, none⟩ = some (.bool s.opn) ∧ V.cell? ⟨b, 7, none⟩ = some (.int .i64 s.seq) ∧ V.cell? ⟨b, 8, none⟩ = some (.int .i64 s.src) ∧ V.heap[w.heap.size]? = some (.cells (MC m v) 37 (0, 0))) (by kernel_rfl) HS.out (fun h0 => ?_)
  refine hTakeS (i := 0) (k := 13) (v := .pointer (some ⟨b, 0, none⟩)) rfl rfl (by kernel_rfl) (by kernel_rfl) (by kernel_rfl) (fun _ _ _ h => h) (yieldsIf_val (by rfl) (by intro W; go_simp)) h0 ?_
  simp only [List.setIfInBounds_toArray, List.set_cons_zero, List.set_cons_succ]
  refine hTakeS (i := 1) (k := 14) (v := .agg (MC m v)) rfl rfl (by kernel_rfl) (by kernel_rfl) (by kernel_rfl) (fun _ _ _ h => h) (.inl ⟨by rfl, fun W hW => load_opM _ rfl w.heap.size rfl (MC m v) _ W hW.2.2.2 rfl⟩) h0 ?_
  simp only [List.setIfInBounds_toArray, List.set_cons_zero, List.set_cons_succ]
  refine hCallR (i := 2) (k := 15) (by kernel_rfl) rfl rfl (by rfl) 51 #[.pointer (some ⟨b, 0, none⟩), .agg (MC m v), .int .i64 8] (by go_simp) (HT2.out) ?_
  rintro e w1 ⟨rfl, hb⟩
  have hB1 := bTr (bDr1 HB0.out) hb
  have hc1 := H.out.drew.below hb
  have h1 : (fun V => V.cell? ⟨b, 6, none⟩ = some (.bool s.opn) ∧ V.cell? ⟨b, 7, none⟩ = some (.int .i64 s.seq) ∧ V.cell? ⟨b, 8, none⟩ = some (.int .i64 s.src) ∧ V.heap[w.heap.size]? = some (.cells (MC m v) 37 (0, 0))) w1 := ⟨(hb.cell (block_lt_cell h0.1)).trans h0.1, (hb.cell (block_lt_cell h0.2.1)).trans h0.2.1, (hb.cell (block_lt_cell h0.2.2.1)).trans h0.2.2.1, (hb.block _ (lt_of_heap h0.2.2.2)).trans h0.2.2.2⟩
  clear hb
  refine ⟨_, rfl, h1, ?_⟩
  simp only [List.setIfInBounds_toArray, List.set_cons_zero, List.set_cons_succ]
  refine hTakeS (i := 3) (k := 16) (v := .bool false) rfl rfl (by kernel_rfl) (by kernel_rfl) (by kernel_rfl) (fun _ _ _ h => h) (yieldsIf_val (by rfl) (by intro W; go_simp)) h1 ?_
  simp only [List.setIfInBounds_toArray, List.set_cons_zero, List.set_cons_succ]
  refine hTakeS (i := 4) (k := 17) (v := .bool false) rfl rfl (by kernel_rfl) (by kernel_rfl) (by kernel_rfl) (fun _ _ _ h => h) (yieldsIf_val (by rfl) (by intro W; go_simp)) h1 ?_
  simp only [List.setIfInBounds_toArray, List.set_cons_zero, List.set_cons_succ]
  refine hTakeS (i := 5) (k := 18) (v := .pointer (some ⟨b, 0, none⟩)) rfl rfl (by kernel_rfl) (by kernel_rfl) (by kernel_rfl) (fun _ _ _ h => h) (yieldsIf_val (by rfl) (by intro W; go_simp)) h1 ?_
  simp only [List.setIfInBounds_toArray, List.set_cons_zero, List.set_cons_succ]
  refine hTakeS (i := 6) (k := 19) (v := .pointer (some ⟨b, 0, none⟩)) rfl rfl (by kernel_rfl) (by kernel_rfl) (by kernel_rfl) (fun _ _ _ h => h) (yieldsIf_val (by rfl) (by intro W; go_simp)) h1 ?_
  simp only [List.setIfInBounds_toArray, List.set_cons_zero, List.set_cons_succ]
  refine hTakeS (i := 7) (k := 20) (v := .pointer (some ⟨b, 6, none⟩)) rfl rfl (by kernel_rfl) (by kernel_rfl) (by kernel_rfl) (fun _ _ _ h => h) (yieldsIf_val (by rfl) (by intro W; go_simp)) h1 ?_
  simp only [List.setIfInBounds_toArray, List.set_cons_zero, List.set_cons_succ]
  refine hTakeS (i := 8) (k := 21) (v := .bool true) rfl rfl (by kernel_rfl) (by kernel_rfl) (by kernel_rfl) (fun _ _ _ h => h) (.inl ⟨by rfl, fun W hW => by obtain ⟨b6, b7, b8, br⟩ := hW; rw [hop] at b6; go_simp⟩) h1 ?_
  simp only [List.setIfInBounds_toArray, List.set_cons_zero, List.set_cons_succ]
  refine hTakeS (i := 9) (k := 22) (v := .bool false) rfl rfl (by kernel_rfl) (by kernel_rfl) (by kernel_rfl) (fun _ _ _ h => h) (yieldsIf_val (by rfl) (by intro W; go_simp)) h1 ?_
  simp only [List.setIfInBounds_toArray, List.set_cons_zero, List.set_cons_succ]
  refine hTakeS (i := 10) (k := 23) (v := .bool false) rfl rfl (by kernel_rfl) (by kernel_rfl) (by kernel_rfl) (fun _ _ _ h => h) (yieldsIf_val (by rfl) (by intro W; go_simp)) h1 ?_
  simp only [List.setIfInBounds_toArray, List.set_cons_zero, List.set_cons_succ]
  refine hTakeS (i := 11) (k := 24) (v := .bool false) rfl rfl (by kernel_rfl) (by kernel_rfl) (by kernel_rfl) (fun _ _ _ h => h) (yieldsIf_val (by rfl) (by intro W; go_simp)) h1 ?_
  simp only [List.setIfInBounds_toArray, List.set_cons_zero, List.set_cons_succ]
  refine hTakeS (i := 12) (k := 25) (v := .pointer (some ⟨w.heap.size, 2, none⟩)) rfl rfl (by kernel_rfl) (by kernel_rfl) (by kernel_rfl) (fun _ _ _ h => h) (yieldsIf_val (by rfl) (by intro W; go_simp)) h1 ?_
  simp only [List.setIfInBounds_toArray, List.set_cons_zero, List.set_cons_succ]
  refine hTakeS (i := 13) (k := 26) (v := .int .i64 m.seq) rfl rfl (by kernel_rfl) (by kernel_rfl) (by kernel_rfl) (fun _ _ _ h => h) (.inl ⟨by rfl, fun W hW => by obtain ⟨b6, b7, b8, br⟩ := hW; have q2 := cell_of_row W w.heap.size 2 _ _ _ br; have q3 := cell_of_row W w.heap.size 3 _ _ _ br; simp only [MC, List.getElem?_toArray, List.getElem?_cons_zero, List.getElem?_cons_succ] at q2 q3; go_simp⟩) h1 ?_
  simp only [List.setIfInBounds_toArray, List.set_cons_zero, List.set_cons_succ]
  refine hTakeS (i := 14) (k := 27) (v := .pointer (some ⟨b, 0, none⟩)) rfl rfl (by kernel_rfl) (by kernel_rfl) (by kernel_rfl) (fun _ _ _ h => h) (yieldsIf_val (by rfl) (by intro W; go_simp)) h1 ?_
  simp only [List.setIfInBounds_toArray, List.set_cons_zero, List.set_cons_succ]
  refine hTakeS (i := 15) (k := 28) (v := .pointer (some ⟨b, 0, none⟩)) rfl rfl (by kernel_rfl) (by kernel_rfl) (by kernel_rfl) (fun _ _ _ h => h) (yieldsIf_val (by rfl) (by intro W; go_simp)) h1 ?_
  simp only [List.setIfInBounds_toArray, List.set_cons_zero, List.set_cons_succ]
  refine hTakeS (i := 16) (k := 29) (v := .pointer (some ⟨b, 7, none⟩)) rfl rfl (by kernel_rfl) (by kernel_rfl) (by kernel_rfl) (fun _ _ _ h => h) (yieldsIf_val (by rfl) (by intro W; go_simp)) h1 ?_
  simp only [List.setIfInBounds_toArray, List.set_cons_zero, List.set_cons_succ]
  refine hTakeS (i := 17) (k := 30) (v := .int .i64 s.seq) rfl rfl (by kernel_rfl) (by kernel_rfl) (by kernel_rfl) (fun _ _ _ h => h) (.inl ⟨by rfl, fun W hW => by obtain ⟨b6, b7, b8, br⟩ := hW; go_simp⟩) h1 ?_
  simp only [List.setIfInBounds_toArray, List.set_cons_zero, List.set_cons_succ]
  refine hTakeS (i := 18) (k := 31) (v := .bool true) rfl rfl (by kernel_rfl) (by kernel_rfl) (by kernel_rfl) (fun _ _ _ h => h) (yieldsIf_val (by rfl) (by intro W; go_simp)) h1 ?_
  simp only [List.setIfInBounds_toArray, List.set_cons_zero, List.set_cons_succ]
  refine hTakeS (i := 19) (k := 32) (v := .bool true) rfl rfl (by kernel_rfl) (by kernel_rfl) (by kernel_rfl) (fun _ _ _ h => h) (yieldsIf_val (by rfl) (by intro W; go_simp)) h1 ?_
  simp only [List.setIfInBounds_toArray, List.set_cons_zero, List.set_cons_succ]
  refine hTakeS (i := 20) (k := 33) (v := .bool true) rfl rfl (by kernel_rfl) (by kernel_rfl) (by kernel_rfl) (fun _ _ _ h => h) (yieldsIf_val (by rfl) (by intro W; go_simp)) h1 ?_
  simp only [List.setIfInBounds_toArray, List.set_cons_zero, List.set_cons_succ]
  refine hTakeS (i := 21) (k := 34) (v := undef) rfl rfl (by kernel_rfl) (by kernel_rfl) (by kernel_rfl) (fun _ _ _ h => h) (yieldsIf_skip (by rfl)) h1 ?_
  simp only [List.setIfInBounds_toArray, List.set_cons_zero, List.set_cons_succ]
  refine hTakeS (i := 22) (k := 35) (v := undef) rfl rfl (by kernel_rfl) (by kernel_rfl) (by kernel_rfl) (fun _ _ _ h => h) (yieldsIf_skip (by rfl)) h1 ?_
  simp only [List.setIfInBounds_toArray, List.set_cons_zero, List.set_cons_succ]
  refine hTakeS (i := 23) (k := 36) (v := undef) rfl rfl (by kernel_rfl) (by kernel_rfl) (by kernel_rfl) (fun _ _ _ h => h) (yieldsIf_skip (by rfl)) h1 ?_
  simp only [List.setIfInBounds_toArray, List.set_cons_zero, List.set_cons_succ]
  refine hTakeS (i := 24) (k := 37) (v := undef) rfl rfl (by kernel_rfl) (by kernel_rfl) (by kernel_rfl) (fun _ _ _ h => h) (yieldsIf_skip (by rfl)) h1 ?_
  simp only [List.setIfInBounds_toArray, List.set_cons_zero, List.set_cons_succ]
  refine hTakeS (i := 25) (k := 38) (v := undef) rfl rfl (by kernel_rfl) (by kernel_rfl) (by kernel_rfl) (fun _ _ _ h => h) (yieldsIf_skip (by rfl)) h1 ?_
  simp only [List.setIfInBounds_toArray, List.set_cons_zero, List.set_cons_succ]
  refine hTakeS (i := 26) (k := 39) (v := undef) rfl rfl (by kernel_rfl) (by kernel_rfl) (by kernel_rfl) (fun _ _ _ h => h) (yieldsIf_skip (by rfl)) h1 ?_
  simp only [List.setIfInBounds_toArray, List.set_cons_zero, List.set_cons_succ]
  refine hTakeS (i := 27) (k := 40) (v := undef) rfl rfl (by kernel_rfl) (by kernel_rfl) (by kernel_rfl) (fun _ _ _ h => h) (yieldsIf_skip (by rfl)) h1 ?_
  simp only [List.setIfInBounds_toArray, List.set_cons_zero, List.set_cons_succ]
  refine hTakeS (i := 28) (k := 41) (v := .bool true) rfl rfl (by kernel_rfl) (by kernel_rfl) (by kernel_rfl) (fun _ _ _ h => h) (yieldsIf_val (by rfl) (by intro W; go_simp)) h1 ?_
  simp only [List.setIfInBounds_toArray, List.set_cons_zero, List.set_cons_succ]
  refine wpAnyH_done (by kernel_rfl) ?_ _
  go_wp2_with fail
  go_ret
  exact ⟨rfl, hB1⟩
set_option maxRecDepth 20000 in
set_option maxHeartbeats 4000000 in
theorem follow_src (h : Ck w b s) (m : Mg) (v : Value) (delay ratio : Int) (hT : ∀ W, Below w.heap.size w W → Calls Try.prog 51 #[.pointer (some ⟨b, 0, none⟩), .agg (MC m v), .int .i64 8] W fun e w' => e = .returned (.bool true) ∧ Below W.heap.size W w') (hop : s.opn = true) (hq : (m.seq != s.seq) = false) (hs : (m.src != s.src) = true) : Calls Try.prog 29 #[.pointer (some ⟨b, 0, none⟩), .agg (MC m v), .int .i64 delay, .int .i64 ratio] w fun e w' => e = .returned (.int .i64 31) ∧ Below w.heap.size w w' := by
  have hb0 := bAl (bRef w) (.cells (MC m v) 37)
  have HT2 := Lib.hid (hT _ (bDr1 hb0))
  have hr := heap_alloc_new w (.cells (MC m v) 37)
  have HR := Lib.hid hr
  have H := Lib.hid (h.below hb0)
  have HB0 := Lib.hid hb0
  have hlt := h.lt
  have hne : w.heap.size ≠ b := by omega
  have HS : Hid ((fun V => V.cell? ⟨b, 6, none⟩ = some (.bool s.opn) ∧ V.cell? ⟨b, 7, none⟩ = some (.int .i64 s.seq) ∧ V.cell? ⟨b, 8, none⟩ = some (.int .i64 s.src) ∧ V.heap[w.heap.size]? = some (.cells (MC m v) 37 (0, 0))) (w.alloc (.cells (MC m v) 37)).drew) := Lib.hid ⟨(h.below hb0).c6, (h.below hb0).c7, (h.below hb0).c8, hr⟩
  clear h hT hb0 hr
  unfold MC
  go_enter Try.func29, Try.ntmps29
  go_wp2_with fail
  refine wp_region_held_drew (S := fun V => V.cell? ⟨b, 6, none⟩ = some (.bool s.opn) ∧ V.cell? ⟨b, 7, none⟩ = some (.int .i64 s.seq) ∧ V.cell? ⟨b, 8, none⟩ = some (.int .i64 s.src) ∧ V.heap[w.heap.size]? = some (.cells (MC m v) 37 (0, 0))) (by kernel_rfl) HS.out (fun h0 => ?_)
  refine hTakeS (i := 0) (k := 13) (v := .pointer (some ⟨b, 0, none⟩)) rfl rfl (by kernel_rfl) (by kernel_rfl) (by kernel_rfl) (fun _ _ _ h => h) (yieldsIf_val (by rfl) (by intro W; go_simp)) h0 ?_
  simp only [List.setIfInBounds_toArray, List.set_cons_zero, List.set_cons_succ]
  refine hTakeS (i := 1) (k := 14) (v := .agg (MC m v)) rfl rfl (by kernel_rfl) (by kernel_rfl) (by kernel_rfl) (fun _ _ _ h => h) (.inl ⟨by rfl, fun W hW => load_opM _ rfl w.heap.size rfl (MC m v) _ W hW.2.2.2 rfl⟩) h0 ?_
  simp only [List.setIfInBounds_toArray, List.set_cons_zero, List.set_cons_succ]
  refine hCallR (i := 2) (k := 15) (by kernel_rfl) rfl rfl (by rfl) 51 #[.pointer (some ⟨b, 0, none⟩), .agg (MC m v), .int .i64 8] (by go_simp) (HT2.out) ?_
  rintro e w1 ⟨rfl, hb⟩
  have hB1 := bTr (bDr1 HB0.out) hb
  have hc1 := H.out.drew.below hb
  have h1 : (fun V => V.cell? ⟨b, 6, none⟩ = some (.bool s.opn) ∧ V.cell? ⟨b, 7, none⟩ = some (.int .i64 s.seq) ∧ V.cell? ⟨b, 8, none⟩ = some (.int .i64 s.src) ∧ V.heap[w.heap.size]? = some (.cells (MC m v) 37 (0, 0))) w1 := ⟨(hb.cell (block_lt_cell h0.1)).trans h0.1, (hb.cell (block_lt_cell h0.2.1)).trans h0.2.1, (hb.cell (block_lt_cell h0.2.2.1)).trans h0.2.2.1, (hb.block _ (lt_of_heap h0.2.2.2)).trans h0.2.2.2⟩
  clear hb
  refine ⟨_, rfl, h1, ?_⟩
  simp only [List.setIfInBounds_toArray, List.set_cons_zero, List.set_cons_succ]
  refine hTakeS (i := 3) (k := 16) (v := .bool false) rfl rfl (by kernel_rfl) (by kernel_rfl) (by kernel_rfl) (fun _ _ _ h => h) (yieldsIf_val (by rfl) (by intro W; go_simp)) h1 ?_
  simp only [List.setIfInBounds_toArray, List.set_cons_zero, List.set_cons_succ]
  refine hTakeS (i := 4) (k := 17) (v := .bool false) rfl rfl (by kernel_rfl) (by kernel_rfl) (by kernel_rfl) (fun _ _ _ h => h) (yieldsIf_val (by rfl) (by intro W; go_simp)) h1 ?_
  simp only [List.setIfInBounds_toArray, List.set_cons_zero, List.set_cons_succ]
  refine hTakeS (i := 5) (k := 18) (v := .pointer (some ⟨b, 0, none⟩)) rfl rfl (by kernel_rfl) (by kernel_rfl) (by kernel_rfl) (fun _ _ _ h => h) (yieldsIf_val (by rfl) (by intro W; go_simp)) h1 ?_
  simp only [List.setIfInBounds_toArray, List.set_cons_zero, List.set_cons_succ]
  refine hTakeS (i := 6) (k := 19) (v := .pointer (some ⟨b, 0, none⟩)) rfl rfl (by kernel_rfl) (by kernel_rfl) (by kernel_rfl) (fun _ _ _ h => h) (yieldsIf_val (by rfl) (by intro W; go_simp)) h1 ?_
  simp only [List.setIfInBounds_toArray, List.set_cons_zero, List.set_cons_succ]
  refine hTakeS (i := 7) (k := 20) (v := .pointer (some ⟨b, 6, none⟩)) rfl rfl (by kernel_rfl) (by kernel_rfl) (by kernel_rfl) (fun _ _ _ h => h) (yieldsIf_val (by rfl) (by intro W; go_simp)) h1 ?_
  simp only [List.setIfInBounds_toArray, List.set_cons_zero, List.set_cons_succ]
  refine hTakeS (i := 8) (k := 21) (v := .bool true) rfl rfl (by kernel_rfl) (by kernel_rfl) (by kernel_rfl) (fun _ _ _ h => h) (.inl ⟨by rfl, fun W hW => by obtain ⟨b6, b7, b8, br⟩ := hW; rw [hop] at b6; go_simp⟩) h1 ?_
  simp only [List.setIfInBounds_toArray, List.set_cons_zero, List.set_cons_succ]
  refine hTakeS (i := 9) (k := 22) (v := .bool false) rfl rfl (by kernel_rfl) (by kernel_rfl) (by kernel_rfl) (fun _ _ _ h => h) (yieldsIf_val (by rfl) (by intro W; go_simp)) h1 ?_
  simp only [List.setIfInBounds_toArray, List.set_cons_zero, List.set_cons_succ]
  refine hTakeS (i := 10) (k := 23) (v := .bool false) rfl rfl (by kernel_rfl) (by kernel_rfl) (by kernel_rfl) (fun _ _ _ h => h) (yieldsIf_val (by rfl) (by intro W; go_simp)) h1 ?_
  simp only [List.setIfInBounds_toArray, List.set_cons_zero, List.set_cons_succ]
  refine hTakeS (i := 11) (k := 24) (v := .bool false) rfl rfl (by kernel_rfl) (by kernel_rfl) (by kernel_rfl) (fun _ _ _ h => h) (yieldsIf_val (by rfl) (by intro W; go_simp)) h1 ?_
  simp only [List.setIfInBounds_toArray, List.set_cons_zero, List.set_cons_succ]
  refine hTakeS (i := 12) (k := 25) (v := .pointer (some ⟨w.heap.size, 2, none⟩)) rfl rfl (by kernel_rfl) (by kernel_rfl) (by kernel_rfl) (fun _ _ _ h => h) (yieldsIf_val (by rfl) (by intro W; go_simp)) h1 ?_
  simp only [List.setIfInBounds_toArray, List.set_cons_zero, List.set_cons_succ]
  refine hTakeS (i := 13) (k := 26) (v := .int .i64 m.seq) rfl rfl (by kernel_rfl) (by kernel_rfl) (by kernel_rfl) (fun _ _ _ h => h) (.inl ⟨by rfl, fun W hW => by obtain ⟨b6, b7, b8, br⟩ := hW; have q2 := cell_of_row W w.heap.size 2 _ _ _ br; have q3 := cell_of_row W w.heap.size 3 _ _ _ br; simp only [MC, List.getElem?_toArray, List.getElem?_cons_zero, List.getElem?_cons_succ] at q2 q3; go_simp⟩) h1 ?_
  simp only [List.setIfInBounds_toArray, List.set_cons_zero, List.set_cons_succ]
  refine hTakeS (i := 14) (k := 27) (v := .pointer (some ⟨b, 0, none⟩)) rfl rfl (by kernel_rfl) (by kernel_rfl) (by kernel_rfl) (fun _ _ _ h => h) (yieldsIf_val (by rfl) (by intro W; go_simp)) h1 ?_
  simp only [List.setIfInBounds_toArray, List.set_cons_zero, List.set_cons_succ]
  refine hTakeS (i := 15) (k := 28) (v := .pointer (some ⟨b, 0, none⟩)) rfl rfl (by kernel_rfl) (by kernel_rfl) (by kernel_rfl) (fun _ _ _ h => h) (yieldsIf_val (by rfl) (by intro W; go_simp)) h1 ?_
  simp only [List.setIfInBounds_toArray, List.set_cons_zero, List.set_cons_succ]
  refine hTakeS (i := 16) (k := 29) (v := .pointer (some ⟨b, 7, none⟩)) rfl rfl (by kernel_rfl) (by kernel_rfl) (by kernel_rfl) (fun _ _ _ h => h) (yieldsIf_val (by rfl) (by intro W; go_simp)) h1 ?_
  simp only [List.setIfInBounds_toArray, List.set_cons_zero, List.set_cons_succ]
  refine hTakeS (i := 17) (k := 30) (v := .int .i64 s.seq) rfl rfl (by kernel_rfl) (by kernel_rfl) (by kernel_rfl) (fun _ _ _ h => h) (.inl ⟨by rfl, fun W hW => by obtain ⟨b6, b7, b8, br⟩ := hW; go_simp⟩) h1 ?_
  simp only [List.setIfInBounds_toArray, List.set_cons_zero, List.set_cons_succ]
  refine hTakeS (i := 18) (k := 31) (v := .bool false) rfl rfl (by kernel_rfl) (by kernel_rfl) (by kernel_rfl) (fun _ _ _ h => h) (yieldsIf_val (by rfl) (by intro W; go_simp)) h1 ?_
  simp only [List.setIfInBounds_toArray, List.set_cons_zero, List.set_cons_succ]
  refine hTakeS (i := 19) (k := 32) (v := .bool false) rfl rfl (by kernel_rfl) (by kernel_rfl) (by kernel_rfl) (fun _ _ _ h => h) (yieldsIf_val (by rfl) (by intro W; go_simp)) h1 ?_
  simp only [List.setIfInBounds_toArray, List.set_cons_zero, List.set_cons_succ]
  refine hTakeS (i := 20) (k := 33) (v := .bool false) rfl rfl (by kernel_rfl) (by kernel_rfl) (by kernel_rfl) (fun _ _ _ h => h) (yieldsIf_val (by rfl) (by intro W; go_simp)) h1 ?_
  simp only [List.setIfInBounds_toArray, List.set_cons_zero, List.set_cons_succ]
  refine hTakeS (i := 21) (k := 34) (v := .pointer (some ⟨w.heap.size, 3, none⟩)) rfl rfl (by kernel_rfl) (by kernel_rfl) (by kernel_rfl) (fun _ _ _ h => h) (yieldsIf_val (by rfl) (by intro W; go_simp)) h1 ?_
  simp only [List.setIfInBounds_toArray, List.set_cons_zero, List.set_cons_succ]
  refine hTakeS (i := 22) (k := 35) (v := .int .i64 m.src) rfl rfl (by kernel_rfl) (by kernel_rfl) (by kernel_rfl) (fun _ _ _ h => h) (.inl ⟨by rfl, fun W hW => by obtain ⟨b6, b7, b8, br⟩ := hW; have q2 := cell_of_row W w.heap.size 2 _ _ _ br; have q3 := cell_of_row W w.heap.size 3 _ _ _ br; simp only [MC, List.getElem?_toArray, List.getElem?_cons_zero, List.getElem?_cons_succ] at q2 q3; go_simp⟩) h1 ?_
  simp only [List.setIfInBounds_toArray, List.set_cons_zero, List.set_cons_succ]
  refine hTakeS (i := 23) (k := 36) (v := .pointer (some ⟨b, 0, none⟩)) rfl rfl (by kernel_rfl) (by kernel_rfl) (by kernel_rfl) (fun _ _ _ h => h) (yieldsIf_val (by rfl) (by intro W; go_simp)) h1 ?_
  simp only [List.setIfInBounds_toArray, List.set_cons_zero, List.set_cons_succ]
  refine hTakeS (i := 24) (k := 37) (v := .pointer (some ⟨b, 0, none⟩)) rfl rfl (by kernel_rfl) (by kernel_rfl) (by kernel_rfl) (fun _ _ _ h => h) (yieldsIf_val (by rfl) (by intro W; go_simp)) h1 ?_
  simp only [List.setIfInBounds_toArray, List.set_cons_zero, List.set_cons_succ]
  refine hTakeS (i := 25) (k := 38) (v := .pointer (some ⟨b, 8, none⟩)) rfl rfl (by kernel_rfl) (by kernel_rfl) (by kernel_rfl) (fun _ _ _ h => h) (yieldsIf_val (by rfl) (by intro W; go_simp)) h1 ?_
  simp only [List.setIfInBounds_toArray, List.set_cons_zero, List.set_cons_succ]
  refine hTakeS (i := 26) (k := 39) (v := .int .i64 s.src) rfl rfl (by kernel_rfl) (by kernel_rfl) (by kernel_rfl) (fun _ _ _ h => h) (.inl ⟨by rfl, fun W hW => by obtain ⟨b6, b7, b8, br⟩ := hW; go_simp⟩) h1 ?_
  simp only [List.setIfInBounds_toArray, List.set_cons_zero, List.set_cons_succ]
  refine hTakeS (i := 27) (k := 40) (v := .bool true) rfl rfl (by kernel_rfl) (by kernel_rfl) (by kernel_rfl) (fun _ _ _ h => h) (yieldsIf_val (by rfl) (by intro W; go_simp)) h1 ?_
  simp only [List.setIfInBounds_toArray, List.set_cons_zero, List.set_cons_succ]
  refine hTakeS (i := 28) (k := 41) (v := .bool true) rfl rfl (by kernel_rfl) (by kernel_rfl) (by kernel_rfl) (fun _ _ _ h => h) (yieldsIf_val (by rfl) (by intro W; go_simp)) h1 ?_
  simp only [List.setIfInBounds_toArray, List.set_cons_zero, List.set_cons_succ]
  refine wpAnyH_done (by kernel_rfl) ?_ _
  go_wp2_with fail
  go_ret
  exact ⟨rfl, hB1⟩
set_option maxRecDepth 20000 in
set_option maxHeartbeats 4000000 in
theorem follow_mul (h : Ck w b s) (m : Mg) (v : Value) (delay ratio : Int) (hT : ∀ W, Below w.heap.size w W → Calls Try.prog 51 #[.pointer (some ⟨b, 0, none⟩), .agg (MC m v), .int .i64 8] W fun e w' => e = .returned (.bool true) ∧ Below W.heap.size W w') (hop : s.opn = true) (hq : (m.seq != s.seq) = false) (hs : (m.src != s.src) = false) {q z : Int} (H1 : Ret 52 #[.int .i64 m.rate, .int .i64 ratio] (.tuple #[.int .i64 z, .int .i64 q])) (d1 : (q != 0) = true) : Calls Try.prog 29 #[.pointer (some ⟨b, 0, none⟩), .agg (MC m v), .int .i64 delay, .int .i64 ratio] w fun e w' => e = .returned (.int .i64 q) ∧ LeaveC b w { s with opn := false } w' := by
  have hb0 := bAl (bRef w) (.cells (MC m v) 37)
  have HT2 := Lib.hid (hT _ (bDr1 hb0))
  have hr := heap_alloc_new w (.cells (MC m v) 37)
  have HR := Lib.hid hr
  have H := Lib.hid (h.below hb0)
  have HB0 := Lib.hid hb0
  have hlt := h.lt
  have hne : w.heap.size ≠ b := by omega
  have HS : Hid ((fun V => V.cell? ⟨b, 6, none⟩ = some (.bool s.opn) ∧ V.cell? ⟨b, 7, none⟩ = some (.int .i64 s.seq) ∧ V.cell? ⟨b, 8, none⟩ = some (.int .i64 s.src) ∧ V.heap[w.heap.size]? = some (.cells (MC m v) 37 (0, 0))) (w.alloc (.cells (MC m v) 37)).drew) := Lib.hid ⟨(h.below hb0).c6, (h.below hb0).c7, (h.below hb0).c8, hr⟩
  replace H1 := Lib.hid H1
  clear h hT hb0 hr
  unfold MC
  go_enter Try.func29, Try.ntmps29
  go_wp2_with fail
  refine wp_region_held_drew (S := fun V => V.cell? ⟨b, 6, none⟩ = some (.bool s.opn) ∧ V.cell? ⟨b, 7, none⟩ = some (.int .i64 s.seq) ∧ V.cell? ⟨b, 8, none⟩ = some (.int .i64 s.src) ∧ V.heap[w.heap.size]? = some (.cells (MC m v) 37 (0, 0))) (by kernel_rfl) HS.out (fun h0 => ?_)
  refine hTakeS (i := 0) (k := 13) (v := .pointer (some ⟨b, 0, none⟩)) rfl rfl (by kernel_rfl) (by kernel_rfl) (by kernel_rfl) (fun _ _ _ h => h) (yieldsIf_val (by rfl) (by intro W; go_simp)) h0 ?_
  simp only [List.setIfInBounds_toArray, List.set_cons_zero, List.set_cons_succ]
  refine hTakeS (i := 1) (k := 14) (v := .agg (MC m v)) rfl rfl (by kernel_rfl) (by kernel_rfl) (by kernel_rfl) (fun _ _ _ h => h) (.inl ⟨by rfl, fun W hW => load_opM _ rfl w.heap.size rfl (MC m v) _ W hW.2.2.2 rfl⟩) h0 ?_
  simp only [List.setIfInBounds_toArray, List.set_cons_zero, List.set_cons_succ]
  refine hCallR (i := 2) (k := 15) (by kernel_rfl) rfl rfl (by rfl) 51 #[.pointer (some ⟨b, 0, none⟩), .agg (MC m v), .int .i64 8] (by go_simp) (HT2.out) ?_
  rintro e w1 ⟨rfl, hb⟩
  have hB1 := bTr (bDr1 HB0.out) hb
  have hc1 := H.out.drew.below hb
  have h1 : (fun V => V.cell? ⟨b, 6, none⟩ = some (.bool s.opn) ∧ V.cell? ⟨b, 7, none⟩ = some (.int .i64 s.seq) ∧ V.cell? ⟨b, 8, none⟩ = some (.int .i64 s.src) ∧ V.heap[w.heap.size]? = some (.cells (MC m v) 37 (0, 0))) w1 := ⟨(hb.cell (block_lt_cell h0.1)).trans h0.1, (hb.cell (block_lt_cell h0.2.1)).trans h0.2.1, (hb.cell (block_lt_cell h0.2.2.1)).trans h0.2.2.1, (hb.block _ (lt_of_heap h0.2.2.2)).trans h0.2.2.2⟩
  clear hb
  refine ⟨_, rfl, h1, ?_⟩
  simp only [List.setIfInBounds_toArray, List.set_cons_zero, List.set_cons_succ]
  refine hTakeS (i := 3) (k := 16) (v := .bool false) rfl rfl (by kernel_rfl) (by kernel_rfl) (by kernel_rfl) (fun _ _ _ h => h) (yieldsIf_val (by rfl) (by intro W; go_simp)) h1 ?_
  simp only [List.setIfInBounds_toArray, List.set_cons_zero, List.set_cons_succ]
  refine hTakeS (i := 4) (k := 17) (v := .bool false) rfl rfl (by kernel_rfl) (by kernel_rfl) (by kernel_rfl) (fun _ _ _ h => h) (yieldsIf_val (by rfl) (by intro W; go_simp)) h1 ?_
  simp only [List.setIfInBounds_toArray, List.set_cons_zero, List.set_cons_succ]
  refine hTakeS (i := 5) (k := 18) (v := .pointer (some ⟨b, 0, none⟩)) rfl rfl (by kernel_rfl) (by kernel_rfl) (by kernel_rfl) (fun _ _ _ h => h) (yieldsIf_val (by rfl) (by intro W; go_simp)) h1 ?_
  simp only [List.setIfInBounds_toArray, List.set_cons_zero, List.set_cons_succ]
  refine hTakeS (i := 6) (k := 19) (v := .pointer (some ⟨b, 0, none⟩)) rfl rfl (by kernel_rfl) (by kernel_rfl) (by kernel_rfl) (fun _ _ _ h => h) (yieldsIf_val (by rfl) (by intro W; go_simp)) h1 ?_
  simp only [List.setIfInBounds_toArray, List.set_cons_zero, List.set_cons_succ]
  refine hTakeS (i := 7) (k := 20) (v := .pointer (some ⟨b, 6, none⟩)) rfl rfl (by kernel_rfl) (by kernel_rfl) (by kernel_rfl) (fun _ _ _ h => h) (yieldsIf_val (by rfl) (by intro W; go_simp)) h1 ?_
  simp only [List.setIfInBounds_toArray, List.set_cons_zero, List.set_cons_succ]
  refine hTakeS (i := 8) (k := 21) (v := .bool true) rfl rfl (by kernel_rfl) (by kernel_rfl) (by kernel_rfl) (fun _ _ _ h => h) (.inl ⟨by rfl, fun W hW => by obtain ⟨b6, b7, b8, br⟩ := hW; rw [hop] at b6; go_simp⟩) h1 ?_
  simp only [List.setIfInBounds_toArray, List.set_cons_zero, List.set_cons_succ]
  refine hTakeS (i := 9) (k := 22) (v := .bool false) rfl rfl (by kernel_rfl) (by kernel_rfl) (by kernel_rfl) (fun _ _ _ h => h) (yieldsIf_val (by rfl) (by intro W; go_simp)) h1 ?_
  simp only [List.setIfInBounds_toArray, List.set_cons_zero, List.set_cons_succ]
  refine hTakeS (i := 10) (k := 23) (v := .bool false) rfl rfl (by kernel_rfl) (by kernel_rfl) (by kernel_rfl) (fun _ _ _ h => h) (yieldsIf_val (by rfl) (by intro W; go_simp)) h1 ?_
  simp only [List.setIfInBounds_toArray, List.set_cons_zero, List.set_cons_succ]
  refine hTakeS (i := 11) (k := 24) (v := .bool false) rfl rfl (by kernel_rfl) (by kernel_rfl) (by kernel_rfl) (fun _ _ _ h => h) (yieldsIf_val (by rfl) (by intro W; go_simp)) h1 ?_
  simp only [List.setIfInBounds_toArray, List.set_cons_zero, List.set_cons_succ]
  refine hTakeS (i := 12) (k := 25) (v := .pointer (some ⟨w.heap.size, 2, none⟩)) rfl rfl (by kernel_rfl) (by kernel_rfl) (by kernel_rfl) (fun _ _ _ h => h) (yieldsIf_val (by rfl) (by intro W; go_simp)) h1 ?_
  simp only [List.setIfInBounds_toArray, List.set_cons_zero, List.set_cons_succ]
  refine hTakeS (i := 13) (k := 26) (v := .int .i64 m.seq) rfl rfl (by kernel_rfl) (by kernel_rfl) (by kernel_rfl) (fun _ _ _ h => h) (.inl ⟨by rfl, fun W hW => by obtain ⟨b6, b7, b8, br⟩ := hW; have q2 := cell_of_row W w.heap.size 2 _ _ _ br; have q3 := cell_of_row W w.heap.size 3 _ _ _ br; simp only [MC, List.getElem?_toArray, List.getElem?_cons_zero, List.getElem?_cons_succ] at q2 q3; go_simp⟩) h1 ?_
  simp only [List.setIfInBounds_toArray, List.set_cons_zero, List.set_cons_succ]
  refine hTakeS (i := 14) (k := 27) (v := .pointer (some ⟨b, 0, none⟩)) rfl rfl (by kernel_rfl) (by kernel_rfl) (by kernel_rfl) (fun _ _ _ h => h) (yieldsIf_val (by rfl) (by intro W; go_simp)) h1 ?_
  simp only [List.setIfInBounds_toArray, List.set_cons_zero, List.set_cons_succ]
  refine hTakeS (i := 15) (k := 28) (v := .pointer (some ⟨b, 0, none⟩)) rfl rfl (by kernel_rfl) (by kernel_rfl) (by kernel_rfl) (fun _ _ _ h => h) (yieldsIf_val (by rfl) (by intro W; go_simp)) h1 ?_
  simp only [List.setIfInBounds_toArray, List.set_cons_zero, List.set_cons_succ]
  refine hTakeS (i := 16) (k := 29) (v := .pointer (some ⟨b, 7, none⟩)) rfl rfl (by kernel_rfl) (by kernel_rfl) (by kernel_rfl) (fun _ _ _ h => h) (yieldsIf_val (by rfl) (by intro W; go_simp)) h1 ?_
  simp only [List.setIfInBounds_toArray, List.set_cons_zero, List.set_cons_succ]
  refine hTakeS (i := 17) (k := 30) (v := .int .i64 s.seq) rfl rfl (by kernel_rfl) (by kernel_rfl) (by kernel_rfl) (fun _ _ _ h => h) (.inl ⟨by rfl, fun W hW => by obtain ⟨b6, b7, b8, br⟩ := hW; go_simp⟩) h1 ?_
  simp only [List.setIfInBounds_toArray, List.set_cons_zero, List.set_cons_succ]
  refine hTakeS (i := 18) (k := 31) (v := .bool false) rfl rfl (by kernel_rfl) (by kernel_rfl) (by kernel_rfl) (fun _ _ _ h => h) (yieldsIf_val (by rfl) (by intro W; go_simp)) h1 ?_
  simp only [List.setIfInBounds_toArray, List.set_cons_zero, List.set_cons_succ]
  refine hTakeS (i := 19) (k := 32) (v := .bool false) rfl rfl (by kernel_rfl) (by kernel_rfl) (by kernel_rfl) (fun _ _ _ h => h) (yieldsIf_val (by rfl) (by intro W; go_simp)) h1 ?_
  simp only [List.setIfInBounds_toArray, List.set_cons_zero, List.set_cons_succ]
  refine hTakeS (i := 20) (k := 33) (v := .bool false) rfl rfl (by kernel_rfl) (by kernel_rfl) (by kernel_rfl) (fun _ _ _ h => h) (yieldsIf_val (by rfl) (by intro W; go_simp)) h1 ?_
  simp only [List.setIfInBounds_toArray, List.set_cons_zero, List.set_cons_succ]
  refine hTakeS (i := 21) (k := 34) (v := .pointer (some ⟨w.heap.size, 3, none⟩)) rfl rfl (by kernel_rfl) (by kernel_rfl) (by kernel_rfl) (fun _ _ _ h => h) (yieldsIf_val (by rfl) (by intro W; go_simp)) h1 ?_
  simp only [List.setIfInBounds_toArray, List.set_cons_zero, List.set_cons_succ]
  refine hTakeS (i := 22) (k := 35) (v := .int .i64 m.src) rfl rfl (by kernel_rfl) (by kernel_rfl) (by kernel_rfl) (fun _ _ _ h => h) (.inl ⟨by rfl, fun W hW => by obtain ⟨b6, b7, b8, br⟩ := hW; have q2 := cell_of_row W w.heap.size 2 _ _ _ br; have q3 := cell_of_row W w.heap.size 3 _ _ _ br; simp only [MC, List.getElem?_toArray, List.getElem?_cons_zero, List.getElem?_cons_succ] at q2 q3; go_simp⟩) h1 ?_
  simp only [List.setIfInBounds_toArray, List.set_cons_zero, List.set_cons_succ]
  refine hTakeS (i := 23) (k := 36) (v := .pointer (some ⟨b, 0, none⟩)) rfl rfl (by kernel_rfl) (by kernel_rfl) (by kernel_rfl) (fun _ _ _ h => h) (yieldsIf_val (by rfl) (by intro W; go_simp)) h1 ?_
  simp only [List.setIfInBounds_toArray, List.set_cons_zero, List.set_cons_succ]
  refine hTakeS (i := 24) (k := 37) (v := .pointer (some ⟨b, 0, none⟩)) rfl rfl (by kernel_rfl) (by kernel_rfl) (by kernel_rfl) (fun _ _ _ h => h) (yieldsIf_val (by rfl) (by intro W; go_simp)) h1 ?_
  simp only [List.setIfInBounds_toArray, List.set_cons_zero, List.set_cons_succ]
  refine hTakeS (i := 25) (k := 38) (v := .pointer (some ⟨b, 8, none⟩)) rfl rfl (by kernel_rfl) (by kernel_rfl) (by kernel_rfl) (fun _ _ _ h => h) (yieldsIf_val (by rfl) (by intro W; go_simp)) h1 ?_
  simp only [List.setIfInBounds_toArray, List.set_cons_zero, List.set_cons_succ]
  refine hTakeS (i := 26) (k := 39) (v := .int .i64 s.src) rfl rfl (by kernel_rfl) (by kernel_rfl) (by kernel_rfl) (fun _ _ _ h => h) (.inl ⟨by rfl, fun W hW => by obtain ⟨b6, b7, b8, br⟩ := hW; go_simp⟩) h1 ?_
  simp only [List.setIfInBounds_toArray, List.set_cons_zero, List.set_cons_succ]
  refine hTakeS (i := 27) (k := 40) (v := .bool false) rfl rfl (by kernel_rfl) (by kernel_rfl) (by kernel_rfl) (fun _ _ _ h => h) (yieldsIf_val (by rfl) (by intro W; go_simp)) h1 ?_
  simp only [List.setIfInBounds_toArray, List.set_cons_zero, List.set_cons_succ]
  refine hTakeS (i := 28) (k := 41) (v := .bool false) rfl rfl (by kernel_rfl) (by kernel_rfl) (by kernel_rfl) (fun _ _ _ h => h) (yieldsIf_val (by rfl) (by intro W; go_simp)) h1 ?_
  simp only [List.setIfInBounds_toArray, List.set_cons_zero, List.set_cons_succ]
  refine wpAnyH_done (by kernel_rfl) ?_ _
  obtain ⟨k6, k7, k8, hr1⟩ := h1
  have kf := hc1.fz
  have m9 : w1.cell? ⟨w.heap.size, 9, none⟩ = some (.int .i64 m.rate) := cell_of_row _ _ _ _ _ _ hr1
  have s1 := hc1.set 6 (.bool false) (s' := { s with opn := false }) rfl
  have HR1 := Lib.hid (show (w1.setCell ⟨b, 6, none⟩ (.bool false)).heap[w.heap.size]? = some (.cells (MC m v) 37 (0, 0)) from (heap_setCell_other w1 ⟨b, 6, none⟩ w.heap.size _ hne).trans hr1)
  have HG1 := Lib.hid (set_but (ButB.of_below (b := b) hB1) 6 (.bool false))
  have S1 := Lib.hid s1
  clear hc1 hB1 hr1 s1 k7 k8
  go_wp2_with (first
    | (go_at_call 52; (with_reducible refine (H1.out.go _).mono ?_); rintro e w2 ⟨rfl, hb⟩; have S2 := Lib.hid (S1.out.below hb); have HG2 := Lib.hid (HG1.out.trans (ButB.of_below (b := b) hb)); have HR2 := Lib.hid ((hb.block _ (lt_of_heap HR1.out)).trans HR1.out); clear hb))
  go_ret
  exact ⟨rfl, S2.out, HG2.out⟩
set_option maxRecDepth 20000 in
set_option maxHeartbeats 4000000 in
theorem follow_rate (h : Ck w b s) (m : Mg) (v : Value) (delay ratio : Int) (hT : ∀ W, Below w.heap.size w W → Calls Try.prog 51 #[.pointer (some ⟨b, 0, none⟩), .agg (MC m v), .int .i64 8] W fun e w' => e = .returned (.bool true) ∧ Below W.heap.size W w') (hop : s.opn = true) (hq : (m.seq != s.seq) = false) (hs : (m.src != s.src) = false) {z : Int} (H1 : Ret 52 #[.int .i64 m.rate, .int .i64 ratio] (.tuple #[.int .i64 z, .int .i64 0])) (H2 : Ret 53 #[.int .i64 z] (.int .i64 50)) : Calls Try.prog 29 #[.pointer (some ⟨b, 0, none⟩), .agg (MC m v), .int .i64 delay, .int .i64 ratio] w fun e w' => e = .returned (.int .i64 50) ∧ LeaveC b w { s with opn := false } w' := by
  have hb0 := bAl (bRef w) (.cells (MC m v) 37)
  have HT2 := Lib.hid (hT _ (bDr1 hb0))
  have hr := heap_alloc_new w (.cells (MC m v) 37)
  have HR := Lib.hid hr
  have H := Lib.hid (h.below hb0)
  have HB0 := Lib.hid hb0
  have hlt := h.lt
  have hne : w.heap.size ≠ b := by omega
  have HS : Hid ((fun V => V.cell? ⟨b, 6, none⟩ = some (.bool s.opn) ∧ V.cell? ⟨b, 7, none⟩ = some (.int .i64 s.seq) ∧ V.cell? ⟨b, 8, none⟩ = some (.int .i64 s.src) ∧ V.heap[w.heap.size]? = some (.cells (MC m v) 37 (0, 0))) (w.alloc (.cells (MC m v) 37)).drew) := Lib.hid ⟨(h.below hb0).c6, (h.below hb0).c7, (h.below hb0).c8, hr⟩
  replace H1 := Lib.hid H1; replace H2 := Lib.hid H2
  clear h hT hb0 hr
  unfold MC
  go_enter Try.func29, Try.ntmps29
  go_wp2_with fail
  refine wp_region_held_drew (S := fun V => V.cell? ⟨b, 6, none⟩ = some (.bool s.opn) ∧ V.cell? ⟨b, 7, none⟩ = some (.int .i64 s.seq) ∧ V.cell? ⟨b, 8, none⟩ = some (.int .i64 s.src) ∧ V.heap[w.heap.size]? = some (.cells (MC m v) 37 (0, 0))) (by kernel_rfl) HS.out (fun h0 => ?_)
  refine hTakeS (i := 0) (k := 13) (v := .pointer (some ⟨b, 0, none⟩)) rfl rfl (by kernel_rfl) (by kernel_rfl) (by kernel_rfl) (fun _ _ _ h => h) (yieldsIf_val (by rfl) (by intro W; go_simp)) h0 ?_
  simp only [List.setIfInBounds_toArray, List.set_cons_zero, List.set_cons_succ]
  refine hTakeS (i := 1) (k := 14) (v := .agg (MC m v)) rfl rfl (by kernel_rfl) (by kernel_rfl) (by kernel_rfl) (fun _ _ _ h => h) (.inl ⟨by rfl, fun W hW => load_opM _ rfl w.heap.size rfl (MC m v) _ W hW.2.2.2 rfl⟩) h0 ?_
  simp only [List.setIfInBounds_toArray, List.set_cons_zero, List.set_cons_succ]
  refine hCallR (i := 2) (k := 15) (by kernel_rfl) rfl rfl (by rfl) 51 #[.pointer (some ⟨b, 0, none⟩), .agg (MC m v), .int .i64 8] (by go_simp) (HT2.out) ?_
  rintro e w1 ⟨rfl, hb⟩
  have hB1 := bTr (bDr1 HB0.out) hb
  have hc1 := H.out.drew.below hb
  have h1 : (fun V => V.cell? ⟨b, 6, none⟩ = some (.bool s.opn) ∧ V.cell? ⟨b, 7, none⟩ = some (.int .i64 s.seq) ∧ V.cell? ⟨b, 8, none⟩ = some (.int .i64 s.src) ∧ V.heap[w.heap.size]? = some (.cells (MC m v) 37 (0, 0))) w1 := ⟨(hb.cell (block_lt_cell h0.1)).trans h0.1, (hb.cell (block_lt_cell h0.2.1)).trans h0.2.1, (hb.cell (block_lt_cell h0.2.2.1)).trans h0.2.2.1, (hb.block _ (lt_of_heap h0.2.2.2)).trans h0.2.2.2⟩
  clear hb
  refine ⟨_, rfl, h1, ?_⟩
  simp only [List.setIfInBounds_toArray, List.set_cons_zero, List.set_cons_succ]
  refine hTakeS (i := 3) (k := 16) (v := .bool false) rfl rfl (by kernel_rfl) (by kernel_rfl) (by kernel_rfl) (fun _ _ _ h => h) (yieldsIf_val (by rfl) (by intro W; go_simp)) h1 ?_
  simp only [List.setIfInBounds_toArray, List.set_cons_zero, List.set_cons_succ]
  refine hTakeS (i := 4) (k := 17) (v := .bool false) rfl rfl (by kernel_rfl) (by kernel_rfl) (by kernel_rfl) (fun _ _ _ h => h) (yieldsIf_val (by rfl) (by intro W; go_simp)) h1 ?_
  simp only [List.setIfInBounds_toArray, List.set_cons_zero, List.set_cons_succ]
  refine hTakeS (i := 5) (k := 18) (v := .pointer (some ⟨b, 0, none⟩)) rfl rfl (by kernel_rfl) (by kernel_rfl) (by kernel_rfl) (fun _ _ _ h => h) (yieldsIf_val (by rfl) (by intro W; go_simp)) h1 ?_
  simp only [List.setIfInBounds_toArray, List.set_cons_zero, List.set_cons_succ]
  refine hTakeS (i := 6) (k := 19) (v := .pointer (some ⟨b, 0, none⟩)) rfl rfl (by kernel_rfl) (by kernel_rfl) (by kernel_rfl) (fun _ _ _ h => h) (yieldsIf_val (by rfl) (by intro W; go_simp)) h1 ?_
  simp only [List.setIfInBounds_toArray, List.set_cons_zero, List.set_cons_succ]
  refine hTakeS (i := 7) (k := 20) (v := .pointer (some ⟨b, 6, none⟩)) rfl rfl (by kernel_rfl) (by kernel_rfl) (by kernel_rfl) (fun _ _ _ h => h) (yieldsIf_val (by rfl) (by intro W; go_simp)) h1 ?_
  simp only [List.setIfInBounds_toArray, List.set_cons_zero, List.set_cons_succ]
  refine hTakeS (i := 8) (k := 21) (v := .bool true) rfl rfl (by kernel_rfl) (by kernel_rfl) (by kernel_rfl) (fun _ _ _ h => h) (.inl ⟨by rfl, fun W hW => by obtain ⟨b6, b7, b8, br⟩ := hW; rw [hop] at b6; go_simp⟩) h1 ?_
  simp only [List.setIfInBounds_toArray, List.set_cons_zero, List.set_cons_succ]
  refine hTakeS (i := 9) (k := 22) (v := .bool false) rfl rfl (by kernel_rfl) (by kernel_rfl) (by kernel_rfl) (fun _ _ _ h => h) (yieldsIf_val (by rfl) (by intro W; go_simp)) h1 ?_
  simp only [List.setIfInBounds_toArray, List.set_cons_zero, List.set_cons_succ]
  refine hTakeS (i := 10) (k := 23) (v := .bool false) rfl rfl (by kernel_rfl) (by kernel_rfl) (by kernel_rfl) (fun _ _ _ h => h) (yieldsIf_val (by rfl) (by intro W; go_simp)) h1 ?_
  simp only [List.setIfInBounds_toArray, List.set_cons_zero, List.set_cons_succ]
  refine hTakeS (i := 11) (k := 24) (v := .bool false) rfl rfl (by kernel_rfl) (by kernel_rfl) (by kernel_rfl) (fun _ _ _ h => h) (yieldsIf_val (by rfl) (by intro W; go_simp)) h1 ?_
  simp only [List.setIfInBounds_toArray, List.set_cons_zero, List.set_cons_succ]
  refine hTakeS (i := 12) (k := 25) (v := .pointer (some ⟨w.heap.size, 2, none⟩)) rfl rfl (by kernel_rfl) (by kernel_rfl) (by kernel_rfl) (fun _ _ _ h => h) (yieldsIf_val (by rfl) (by intro W; go_simp)) h1 ?_
  simp only [List.setIfInBounds_toArray, List.set_cons_zero, List.set_cons_succ]
  refine hTakeS (i := 13) (k := 26) (v := .int .i64 m.seq) rfl rfl (by kernel_rfl) (by kernel_rfl) (by kernel_rfl) (fun _ _ _ h => h) (.inl ⟨by rfl, fun W hW => by obtain ⟨b6, b7, b8, br⟩ := hW; have q2 := cell_of_row W w.heap.size 2 _ _ _ br; have q3 := cell_of_row W w.heap.size 3 _ _ _ br; simp only [MC, List.getElem?_toArray, List.getElem?_cons_zero, List.getElem?_cons_succ] at q2 q3; go_simp⟩) h1 ?_
  simp only [List.setIfInBounds_toArray, List.set_cons_zero, List.set_cons_succ]
  refine hTakeS (i := 14) (k := 27) (v := .pointer (some ⟨b, 0, none⟩)) rfl rfl (by kernel_rfl) (by kernel_rfl) (by kernel_rfl) (fun _ _ _ h => h) (yieldsIf_val (by rfl) (by intro W; go_simp)) h1 ?_
  simp only [List.setIfInBounds_toArray, List.set_cons_zero, List.set_cons_succ]
  refine hTakeS (i := 15) (k := 28) (v := .pointer (some ⟨b, 0, none⟩)) rfl rfl (by kernel_rfl) (by kernel_rfl) (by kernel_rfl) (fun _ _ _ h => h) (yieldsIf_val (by rfl) (by intro W; go_simp)) h1 ?_
  simp only [List.setIfInBounds_toArray, List.set_cons_zero, List.set_cons_succ]
  refine hTakeS (i := 16) (k := 29) (v := .pointer (some ⟨b, 7, none⟩)) rfl rfl (by kernel_rfl) (by kernel_rfl) (by kernel_rfl) (fun _ _ _ h => h) (yieldsIf_val (by rfl) (by intro W; go_simp)) h1 ?_
  simp only [List.setIfInBounds_toArray, List.set_cons_zero, List.set_cons_succ]
  refine hTakeS (i := 17) (k := 30) (v := .int .i64 s.seq) rfl rfl (by kernel_rfl) (by kernel_rfl) (by kernel_rfl) (fun _ _ _ h => h) (.inl ⟨by rfl, fun W hW => by obtain ⟨b6, b7, b8, br⟩ := hW; go_simp⟩) h1 ?_
  simp only [List.setIfInBounds_toArray, List.set_cons_zero, List.set_cons_succ]
  refine hTakeS (i := 18) (k := 31) (v := .bool false) rfl rfl (by kernel_rfl) (by kernel_rfl) (by kernel_rfl) (fun _ _ _ h => h) (yieldsIf_val (by rfl) (by intro W; go_simp)) h1 ?_
  simp only [List.setIfInBounds_toArray, List.set_cons_zero, List.set_cons_succ]
  refine hTakeS (i := 19) (k := 32) (v := .bool false) rfl rfl (by kernel_rfl) (by kernel_rfl) (by kernel_rfl) (fun _ _ _ h => h) (yieldsIf_val (by rfl) (by intro W; go_simp)) h1 ?_
  simp only [List.setIfInBounds_toArray, List.set_cons_zero, List.set_cons_succ]
  refine hTakeS (i := 20) (k := 33) (v := .bool false) rfl rfl (by kernel_rfl) (by kernel_rfl) (by kernel_rfl) (fun _ _ _ h => h) (yieldsIf_val (by rfl) (by intro W; go_simp)) h1 ?_
  simp only [List.setIfInBounds_toArray, List.set_cons_zero, List.set_cons_succ]
  refine hTakeS (i := 21) (k := 34) (v := .pointer (some ⟨w.heap.size, 3, none⟩)) rfl rfl (by kernel_rfl) (by kernel_rfl) (by kernel_rfl) (fun _ _ _ h => h) (yieldsIf_val (by rfl) (by intro W; go_simp)) h1 ?_
  simp only [List.setIfInBounds_toArray, List.set_cons_zero, List.set_cons_succ]
  refine hTakeS (i := 22) (k := 35) (v := .int .i64 m.src) rfl rfl (by kernel_rfl) (by kernel_rfl) (by kernel_rfl) (fun _ _ _ h => h) (.inl ⟨by rfl, fun W hW => by obtain ⟨b6, b7, b8, br⟩ := hW; have q2 := cell_of_row W w.heap.size 2 _ _ _ br; have q3 := cell_of_row W w.heap.size 3 _ _ _ br; simp only [MC, List.getElem?_toArray, List.getElem?_cons_zero, List.getElem?_cons_succ] at q2 q3; go_simp⟩) h1 ?_
  simp only [List.setIfInBounds_toArray, List.set_cons_zero, List.set_cons_succ]
  refine hTakeS (i := 23) (k := 36) (v := .pointer (some ⟨b, 0, none⟩)) rfl rfl (by kernel_rfl) (by kernel_rfl) (by kernel_rfl) (fun _ _ _ h => h) (yieldsIf_val (by rfl) (by intro W; go_simp)) h1 ?_
  simp only [List.setIfInBounds_toArray, List.set_cons_zero, List.set_cons_succ]
  refine hTakeS (i := 24) (k := 37) (v := .pointer (some ⟨b, 0, none⟩)) rfl rfl (by kernel_rfl) (by kernel_rfl) (by kernel_rfl) (fun _ _ _ h => h) (yieldsIf_val (by rfl) (by intro W; go_simp)) h1 ?_
  simp only [List.setIfInBounds_toArray, List.set_cons_zero, List.set_cons_succ]
  refine hTakeS (i := 25) (k := 38) (v := .pointer (some ⟨b, 8, none⟩)) rfl rfl (by kernel_rfl) (by kernel_rfl) (by kernel_rfl) (fun _ _ _ h => h) (yieldsIf_val (by rfl) (by intro W; go_simp)) h1 ?_
  simp only [List.setIfInBounds_toArray, List.set_cons_zero, List.set_cons_succ]
  refine hTakeS (i := 26) (k := 39) (v := .int .i64 s.src) rfl rfl (by kernel_rfl) (by kernel_rfl) (by kernel_rfl) (fun _ _ _ h => h) (.inl ⟨by rfl, fun W hW => by obtain ⟨b6, b7, b8, br⟩ := hW; go_simp⟩) h1 ?_
  simp only [List.setIfInBounds_toArray, List.set_cons_zero, List.set_cons_succ]
  refine hTakeS (i := 27) (k := 40) (v := .bool false) rfl rfl (by kernel_rfl) (by kernel_rfl) (by kernel_rfl) (fun _ _ _ h => h) (yieldsIf_val (by rfl) (by intro W; go_simp)) h1 ?_
  simp only [List.setIfInBounds_toArray, List.set_cons_zero, List.set_cons_succ]
  refine hTakeS (i := 28) (k := 41) (v := .bool false) rfl rfl (by kernel_rfl) (by kernel_rfl) (by kernel_rfl) (fun _ _ _ h => h) (yieldsIf_val (by rfl) (by intro W; go_simp)) h1 ?_
  simp only [List.setIfInBounds_toArray, List.set_cons_zero, List.set_cons_succ]
  refine wpAnyH_done (by kernel_rfl) ?_ _
  obtain ⟨k6, k7, k8, hr1⟩ := h1
  have kf := hc1.fz
  have m9 : w1.cell? ⟨w.heap.size, 9, none⟩ = some (.int .i64 m.rate) := cell_of_row _ _ _ _ _ _ hr1
  have s1 := hc1.set 6 (.bool false) (s' := { s with opn := false }) rfl
  have HR1 := Lib.hid (show (w1.setCell ⟨b, 6, none⟩ (.bool false)).heap[w.heap.size]? = some (.cells (MC m v) 37 (0, 0)) from (heap_setCell_other w1 ⟨b, 6, none⟩ w.heap.size _ hne).trans hr1)
  have HG1 := Lib.hid (set_but (ButB.of_below (b := b) hB1) 6 (.bool false))
  have S1 := Lib.hid s1
  clear hc1 hB1 hr1 s1 k7 k8
  go_wp2_with (first
    | (go_at_call 52; (with_reducible refine (H1.out.go _).mono ?_); rintro e w2 ⟨rfl, hb⟩; have S2 := Lib.hid (S1.out.below hb); have HG2 := Lib.hid (HG1.out.trans (ButB.of_below (b := b) hb)); have HR2 := Lib.hid ((hb.block _ (lt_of_heap HR1.out)).trans HR1.out); clear hb)
    | (go_at_call 53; (with_reducible refine (H2.out.go _).mono ?_); rintro e w3 ⟨rfl, hb⟩; have S3 := Lib.hid (S2.out.below hb); have HG3 := Lib.hid (HG2.out.trans (ButB.of_below (b := b) hb)); have HR3 := Lib.hid ((hb.block _ (lt_of_heap HR2.out)).trans HR2.out); clear hb))
  go_ret
  exact ⟨rfl, S3.out, HG3.out⟩
set_option maxRecDepth 20000 in
set_option maxHeartbeats 4000000 in
theorem follow_far (h : Ck w b s) (m : Mg) (v : Value) (delay ratio : Int) (hT : ∀ W, Below w.heap.size w W → Calls Try.prog 51 #[.pointer (some ⟨b, 0, none⟩), .agg (MC m v), .int .i64 8] W fun e w' => e = .returned (.bool true) ∧ Below W.heap.size W w') (hop : s.opn = true) (hq : (m.seq != s.seq) = false) (hs : (m.src != s.src) = false) {z : Int} (H1 : Ret 52 #[.int .i64 m.rate, .int .i64 ratio] (.tuple #[.int .i64 z, .int .i64 0])) (H2 : Ret 53 #[.int .i64 z] (.int .i64 0)) {t q : Int} (H3 : ∀ W, Calls Try.prog 54 #[.agg (MC m v), .int .i64 delay, .int .i64 z] W fun e w' => e = .returned (.tuple #[.int .i64 t, .int .i64 q]) ∧ Below W.heap.size W w') (d1 : (q != 0) = true) : Calls Try.prog 29 #[.pointer (some ⟨b, 0, none⟩), .agg (MC m v), .int .i64 delay, .int .i64 ratio] w fun e w' => e = .returned (.int .i64 q) ∧ LeaveC b w { s with opn := false } w' := by
  have hb0 := bAl (bRef w) (.cells (MC m v) 37)
  have HT2 := Lib.hid (hT _ (bDr1 hb0))
  have hr := heap_alloc_new w (.cells (MC m v) 37)
  have HR := Lib.hid hr
  have H := Lib.hid (h.below hb0)
  have HB0 := Lib.hid hb0
  have hlt := h.lt
  have hne : w.heap.size ≠ b := by omega
  have HS : Hid ((fun V => V.cell? ⟨b, 6, none⟩ = some (.bool s.opn) ∧ V.cell? ⟨b, 7, none⟩ = some (.int .i64 s.seq) ∧ V.cell? ⟨b, 8, none⟩ = some (.int .i64 s.src) ∧ V.heap[w.heap.size]? = some (.cells (MC m v) 37 (0, 0))) (w.alloc (.cells (MC m v) 37)).drew) := Lib.hid ⟨(h.below hb0).c6, (h.below hb0).c7, (h.below hb0).c8, hr⟩
  replace H1 := Lib.hid H1; replace H2 := Lib.hid H2; replace H3 := Lib.hid H3
  clear h hT hb0 hr
  unfold MC
  go_enter Try.func29, Try.ntmps29
  go_wp2_with fail
  refine wp_region_held_drew (S := fun V => V.cell? ⟨b, 6, none⟩ = some (.bool s.opn) ∧ V.cell? ⟨b, 7, none⟩ = some (.int .i64 s.seq) ∧ V.cell? ⟨b, 8, none⟩ = some (.int .i64 s.src) ∧ V.heap[w.heap.size]? = some (.cells (MC m v) 37 (0, 0))) (by kernel_rfl) HS.out (fun h0 => ?_)
  refine hTakeS (i := 0) (k := 13) (v := .pointer (some ⟨b, 0, none⟩)) rfl rfl (by kernel_rfl) (by kernel_rfl) (by kernel_rfl) (fun _ _ _ h => h) (yieldsIf_val (by rfl) (by intro W; go_simp)) h0 ?_
  simp only [List.setIfInBounds_toArray, List.set_cons_zero, List.set_cons_succ]
  refine hTakeS (i := 1) (k := 14) (v := .agg (MC m v)) rfl rfl (by kernel_rfl) (by kernel_rfl) (by kernel_rfl) (fun _ _ _ h => h) (.inl ⟨by rfl, fun W hW => load_opM _ rfl w.heap.size rfl (MC m v) _ W hW.2.2.2 rfl⟩) h0 ?_
  simp only [List.setIfInBounds_toArray, List.set_cons_zero, List.set_cons_succ]
  refine hCallR (i := 2) (k := 15) (by kernel_rfl) rfl rfl (by rfl) 51 #[.pointer (some ⟨b, 0, none⟩), .agg (MC m v), .int .i64 8] (by go_simp) (HT2.out) ?_
  rintro e w1 ⟨rfl, hb⟩
  have hB1 := bTr (bDr1 HB0.out) hb
  have hc1 := H.out.drew.below hb
  have h1 : (fun V => V.cell? ⟨b, 6, none⟩ = some (.bool s.opn) ∧ V.cell? ⟨b, 7, none⟩ = some (.int .i64 s.seq) ∧ V.cell? ⟨b, 8, none⟩ = some (.int .i64 s.src) ∧ V.heap[w.heap.size]? = some (.cells (MC m v) 37 (0, 0))) w1 := ⟨(hb.cell (block_lt_cell h0.1)).trans h0.1, (hb.cell (block_lt_cell h0.2.1)).trans h0.2.1, (hb.cell (block_lt_cell h0.2.2.1)).trans h0.2.2.1, (hb.block _ (lt_of_heap h0.2.2.2)).trans h0.2.2.2⟩
  clear hb
  refine ⟨_, rfl, h1, ?_⟩
  simp only [List.setIfInBounds_toArray, List.set_cons_zero, List.set_cons_succ]
  refine hTakeS (i := 3) (k := 16) (v := .bool false) rfl rfl (by kernel_rfl) (by kernel_rfl) (by kernel_rfl) (fun _ _ _ h => h) (yieldsIf_val (by rfl) (by intro W; go_simp)) h1 ?_
  simp only [List.setIfInBounds_toArray, List.set_cons_zero, List.set_cons_succ]
  refine hTakeS (i := 4) (k := 17) (v := .bool false) rfl rfl (by kernel_rfl) (by kernel_rfl) (by kernel_rfl) (fun _ _ _ h => h) (yieldsIf_val (by rfl) (by intro W; go_simp)) h1 ?_
  simp only [List.setIfInBounds_toArray, List.set_cons_zero, List.set_cons_succ]
  refine hTakeS (i := 5) (k := 18) (v := .pointer (some ⟨b, 0, none⟩)) rfl rfl (by kernel_rfl) (by kernel_rfl) (by kernel_rfl) (fun _ _ _ h => h) (yieldsIf_val (by rfl) (by intro W; go_simp)) h1 ?_
  simp only [List.setIfInBounds_toArray, List.set_cons_zero, List.set_cons_succ]
  refine hTakeS (i := 6) (k := 19) (v := .pointer (some ⟨b, 0, none⟩)) rfl rfl (by kernel_rfl) (by kernel_rfl) (by kernel_rfl) (fun _ _ _ h => h) (yieldsIf_val (by rfl) (by intro W; go_simp)) h1 ?_
  simp only [List.setIfInBounds_toArray, List.set_cons_zero, List.set_cons_succ]
  refine hTakeS (i := 7) (k := 20) (v := .pointer (some ⟨b, 6, none⟩)) rfl rfl (by kernel_rfl) (by kernel_rfl) (by kernel_rfl) (fun _ _ _ h => h) (yieldsIf_val (by rfl) (by intro W; go_simp)) h1 ?_
  simp only [List.setIfInBounds_toArray, List.set_cons_zero, List.set_cons_succ]
  refine hTakeS (i := 8) (k := 21) (v := .bool true) rfl rfl (by kernel_rfl) (by kernel_rfl) (by kernel_rfl) (fun _ _ _ h => h) (.inl ⟨by rfl, fun W hW => by obtain ⟨b6, b7, b8, br⟩ := hW; rw [hop] at b6; go_simp⟩) h1 ?_
  simp only [List.setIfInBounds_toArray, List.set_cons_zero, List.set_cons_succ]
  refine hTakeS (i := 9) (k := 22) (v := .bool false) rfl rfl (by kernel_rfl) (by kernel_rfl) (by kernel_rfl) (fun _ _ _ h => h) (yieldsIf_val (by rfl) (by intro W; go_simp)) h1 ?_
  simp only [List.setIfInBounds_toArray, List.set_cons_zero, List.set_cons_succ]
  refine hTakeS (i := 10) (k := 23) (v := .bool false) rfl rfl (by kernel_rfl) (by kernel_rfl) (by kernel_rfl) (fun _ _ _ h => h) (yieldsIf_val (by rfl) (by intro W; go_simp)) h1 ?_
  simp only [List.setIfInBounds_toArray, List.set_cons_zero, List.set_cons_succ]
  refine hTakeS (i := 11) (k := 24) (v := .bool false) rfl rfl (by kernel_rfl) (by kernel_rfl) (by kernel_rfl) (fun _ _ _ h => h) (yieldsIf_val (by rfl) (by intro W; go_simp)) h1 ?_
  simp only [List.setIfInBounds_toArray, List.set_cons_zero, List.set_cons_succ]
  refine hTakeS (i := 12) (k := 25) (v := .pointer (some ⟨w.heap.size, 2, none⟩)) rfl rfl (by kernel_rfl) (by kernel_rfl) (by kernel_rfl) (fun _ _ _ h => h) (yieldsIf_val (by rfl) (by intro W; go_simp)) h1 ?_
  simp only [List.setIfInBounds_toArray, List.set_cons_zero, List.set_cons_succ]
  refine hTakeS (i := 13) (k := 26) (v := .int .i64 m.seq) rfl rfl (by kernel_rfl) (by kernel_rfl) (by kernel_rfl) (fun _ _ _ h => h) (.inl ⟨by rfl, fun W hW => by obtain ⟨b6, b7, b8, br⟩ := hW; have q2 := cell_of_row W w.heap.size 2 _ _ _ br; have q3 := cell_of_row W w.heap.size 3 _ _ _ br; simp only [MC, List.getElem?_toArray, List.getElem?_cons_zero, List.getElem?_cons_succ] at q2 q3; go_simp⟩) h1 ?_
  simp only [List.setIfInBounds_toArray, List.set_cons_zero, List.set_cons_succ]
  refine hTakeS (i := 14) (k := 27) (v := .pointer (some ⟨b, 0, none⟩)) rfl rfl (by kernel_rfl) (by kernel_rfl) (by kernel_rfl) (fun _ _ _ h => h) (yieldsIf_val (by rfl) (by intro W; go_simp)) h1 ?_
  simp only [List.setIfInBounds_toArray, List.set_cons_zero, List.set_cons_succ]
  refine hTakeS (i := 15) (k := 28) (v := .pointer (some ⟨b, 0, none⟩)) rfl rfl (by kernel_rfl) (by kernel_rfl) (by kernel_rfl) (fun _ _ _ h => h) (yieldsIf_val (by rfl) (by intro W; go_simp)) h1 ?_
  simp only [List.setIfInBounds_toArray, List.set_cons_zero, List.set_cons_succ]
  refine hTakeS (i := 16) (k := 29) (v := .pointer (some ⟨b, 7, none⟩)) rfl rfl (by kernel_rfl) (by kernel_rfl) (by kernel_rfl) (fun _ _ _ h => h) (yieldsIf_val (by rfl) (by intro W; go_simp)) h1 ?_
  simp only [List.setIfInBounds_toArray, List.set_cons_zero, List.set_cons_succ]
  refine hTakeS (i := 17) (k := 30) (v := .int .i64 s.seq) rfl rfl (by kernel_rfl) (by kernel_rfl) (by kernel_rfl) (fun _ _ _ h => h) (.inl ⟨by rfl, fun W hW => by obtain ⟨b6, b7, b8, br⟩ := hW; go_simp⟩) h1 ?_
  simp only [List.setIfInBounds_toArray, List.set_cons_zero, List.set_cons_succ]
  refine hTakeS (i := 18) (k := 31) (v := .bool false) rfl rfl (by kernel_rfl) (by kernel_rfl) (by kernel_rfl) (fun _ _ _ h => h) (yieldsIf_val (by rfl) (by intro W; go_simp)) h1 ?_
  simp only [List.setIfInBounds_toArray, List.set_cons_zero, List.set_cons_succ]
  refine hTakeS (i := 19) (k := 32) (v := .bool false) rfl rfl (by kernel_rfl) (by kernel_rfl) (by kernel_rfl) (fun _ _ _ h => h) (yieldsIf_val (by rfl) (by intro W; go_simp)) h1 ?_
  simp only [List.setIfInBounds_toArray, List.set_cons_zero, List.set_cons_succ]
  refine hTakeS (i := 20) (k := 33) (v := .bool false) rfl rfl (by kernel_rfl) (by kernel_rfl) (by kernel_rfl) (fun _ _ _ h => h) (yieldsIf_val (by rfl) (by intro W; go_simp)) h1 ?_
  simp only [List.setIfInBounds_toArray, List.set_cons_zero, List.set_cons_succ]
  refine hTakeS (i := 21) (k := 34) (v := .pointer (some ⟨w.heap.size, 3, none⟩)) rfl rfl (by kernel_rfl) (by kernel_rfl) (by kernel_rfl) (fun _ _ _ h => h) (yieldsIf_val (by rfl) (by intro W; go_simp)) h1 ?_
  simp only [List.setIfInBounds_toArray, List.set_cons_zero, List.set_cons_succ]
  refine hTakeS (i := 22) (k := 35) (v := .int .i64 m.src) rfl rfl (by kernel_rfl) (by kernel_rfl) (by kernel_rfl) (fun _ _ _ h => h) (.inl ⟨by rfl, fun W hW => by obtain ⟨b6, b7, b8, br⟩ := hW; have q2 := cell_of_row W w.heap.size 2 _ _ _ br; have q3 := cell_of_row W w.heap.size 3 _ _ _ br; simp only [MC, List.getElem?_toArray, List.getElem?_cons_zero, List.getElem?_cons_succ] at q2 q3; go_simp⟩) h1 ?_
  simp only [List.setIfInBounds_toArray, List.set_cons_zero, List.set_cons_succ]
  refine hTakeS (i := 23) (k := 36) (v := .pointer (some ⟨b, 0, none⟩)) rfl rfl (by kernel_rfl) (by kernel_rfl) (by kernel_rfl) (fun _ _ _ h => h) (yieldsIf_val (by rfl) (by intro W; go_simp)) h1 ?_
  simp only [List.setIfInBounds_toArray, List.set_cons_zero, List.set_cons_succ]
  refine hTakeS (i := 24) (k := 37) (v := .pointer (some ⟨b, 0, none⟩)) rfl rfl (by kernel_rfl) (by kernel_rfl) (by kernel_rfl) (fun _ _ _ h => h) (yieldsIf_val (by rfl) (by intro W; go_simp)) h1 ?_
  simp only [List.setIfInBounds_toArray, List.set_cons_zero, List.set_cons_succ]
  refine hTakeS (i := 25) (k := 38) (v := .pointer (some ⟨b, 8, none⟩)) rfl rfl (by kernel_rfl) (by kernel_rfl) (by kernel_rfl) (fun _ _ _ h => h) (yieldsIf_val (by rfl) (by intro W; go_simp)) h1 ?_
  simp only [List.setIfInBounds_toArray, List.set_cons_zero, List.set_cons_succ]
  refine hTakeS (i := 26) (k := 39) (v := .int .i64 s.src) rfl rfl (by kernel_rfl) (by kernel_rfl) (by kernel_rfl) (fun _ _ _ h => h) (.inl ⟨by rfl, fun W hW => by obtain ⟨b6, b7, b8, br⟩ := hW; go_simp⟩) h1 ?_
  simp only [List.setIfInBounds_toArray, List.set_cons_zero, List.set_cons_succ]
  refine hTakeS (i := 27) (k := 40) (v := .bool false) rfl rfl (by kernel_rfl) (by kernel_rfl) (by kernel_rfl) (fun _ _ _ h => h) (yieldsIf_val (by rfl) (by intro W; go_simp)) h1 ?_
  simp only [List.setIfInBounds_toArray, List.set_cons_zero, List.set_cons_succ]
  refine hTakeS (i := 28) (k := 41) (v := .bool false) rfl rfl (by kernel_rfl) (by kernel_rfl) (by kernel_rfl) (fun _ _ _ h => h) (yieldsIf_val (by rfl) (by intro W; go_simp)) h1 ?_
  simp only [List.setIfInBounds_toArray, List.set_cons_zero, List.set_cons_succ]
  refine wpAnyH_done (by kernel_rfl) ?_ _
  obtain ⟨k6, k7, k8, hr1⟩ := h1
  have kf := hc1.fz
  have m9 : w1.cell? ⟨w.heap.size, 9, none⟩ = some (.int .i64 m.rate) := cell_of_row _ _ _ _ _ _ hr1
  have s1 := hc1.set 6 (.bool false) (s' := { s with opn := false }) rfl
  have HR1 := Lib.hid (show (w1.setCell ⟨b, 6, none⟩ (.bool false)).heap[w.heap.size]? = some (.cells (MC m v) 37 (0, 0)) from (heap_setCell_other w1 ⟨b, 6, none⟩ w.heap.size _ hne).trans hr1)
  have HG1 := Lib.hid (set_but (ButB.of_below (b := b) hB1) 6 (.bool false))
  have S1 := Lib.hid s1
  clear hc1 hB1 hr1 s1 k7 k8
  go_wp2_with (first
    | (go_at_call 52; (with_reducible refine (H1.out.go _).mono ?_); rintro e w2 ⟨rfl, hb⟩; have S2 := Lib.hid (S1.out.below hb); have HG2 := Lib.hid (HG1.out.trans (ButB.of_below (b := b) hb)); have HR2 := Lib.hid ((hb.block _ (lt_of_heap HR1.out)).trans HR1.out); clear hb)
    | (go_at_call 53; (with_reducible refine (H2.out.go _).mono ?_); rintro e w3 ⟨rfl, hb⟩; have S3 := Lib.hid (S2.out.below hb); have HG3 := Lib.hid (HG2.out.trans (ButB.of_below (b := b) hb)); have HR3 := Lib.hid ((hb.block _ (lt_of_heap HR2.out)).trans HR2.out); clear hb)
    | ((with_reducible refine at_loadM ?_); refine wpList_loadM rfl _ rfl w.heap.size rfl (MC m v) _ HR3.out rfl ?_)
    | (go_at_call 54; (with_reducible refine (H3.out _).mono ?_); rintro e w4 ⟨rfl, hb⟩; have S4 := Lib.hid (S3.out.below hb); have HG4 := Lib.hid (HG3.out.trans (ButB.of_below (b := b) hb)); have j9 := S4.out.c9; clear hb))
  go_ret
  exact ⟨rfl, S4.out, HG4.out⟩
set_option maxRecDepth 20000 in
set_option maxHeartbeats 4000000 in
theorem follow_yes (h : Ck w b s) (m : Mg) (v : Value) (delay ratio : Int) (hT : ∀ W, Below w.heap.size w W → Calls Try.prog 51 #[.pointer (some ⟨b, 0, none⟩), .agg (MC m v), .int .i64 8] W fun e w' => e = .returned (.bool true) ∧ Below W.heap.size W w') (hop : s.opn = true) (hq : (m.seq != s.seq) = false) (hs : (m.src != s.src) = false) {z : Int} (H1 : Ret 52 #[.int .i64 m.rate, .int .i64 ratio] (.tuple #[.int .i64 z, .int .i64 0])) (H2 : Ret 53 #[.int .i64 z] (.int .i64 0)) {t : Int} (H3 : ∀ W, Calls Try.prog 54 #[.agg (MC m v), .int .i64 delay, .int .i64 z] W fun e w' => e = .returned (.tuple #[.int .i64 t, .int .i64 0]) ∧ Below W.heap.size W w') : Calls Try.prog 29 #[.pointer (some ⟨b, 0, none⟩), .agg (MC m v), .int .i64 delay, .int .i64 ratio] w fun e w' => e = .returned (.int .i64 0) ∧ LeaveC b w (s.told t z) w' := by
  have hb0 := bAl (bRef w) (.cells (MC m v) 37)
  have HT2 := Lib.hid (hT _ (bDr1 hb0))
  have hr := heap_alloc_new w (.cells (MC m v) 37)
  have HR := Lib.hid hr
  have H := Lib.hid (h.below hb0)
  have HB0 := Lib.hid hb0
  have hlt := h.lt
  have hne : w.heap.size ≠ b := by omega
  have HS : Hid ((fun V => V.cell? ⟨b, 6, none⟩ = some (.bool s.opn) ∧ V.cell? ⟨b, 7, none⟩ = some (.int .i64 s.seq) ∧ V.cell? ⟨b, 8, none⟩ = some (.int .i64 s.src) ∧ V.heap[w.heap.size]? = some (.cells (MC m v) 37 (0, 0))) (w.alloc (.cells (MC m v) 37)).drew) := Lib.hid ⟨(h.below hb0).c6, (h.below hb0).c7, (h.below hb0).c8, hr⟩
  replace H1 := Lib.hid H1; replace H2 := Lib.hid H2; replace H3 := Lib.hid H3
  clear h hT hb0 hr
  unfold MC
  go_enter Try.func29, Try.ntmps29
  go_wp2_with fail
  refine wp_region_held_drew (S := fun V => V.cell? ⟨b, 6, none⟩ = some (.bool s.opn) ∧ V.cell? ⟨b, 7, none⟩ = some (.int .i64 s.seq) ∧ V.cell? ⟨b, 8, none⟩ = some (.int .i64 s.src) ∧ V.heap[w.heap.size]? = some (.cells (MC m v) 37 (0, 0))) (by kernel_rfl) HS.out (fun h0 => ?_)
  refine hTakeS (i := 0) (k := 13) (v := .pointer (some ⟨b, 0, none⟩)) rfl rfl (by kernel_rfl) (by kernel_rfl) (by kernel_rfl) (fun _ _ _ h => h) (yieldsIf_val (by rfl) (by intro W; go_simp)) h0 ?_
  simp only [List.setIfInBounds_toArray, List.set_cons_zero, List.set_cons_succ]
  refine hTakeS (i := 1) (k := 14) (v := .agg (MC m v)) rfl rfl (by kernel_rfl) (by kernel_rfl) (by kernel_rfl) (fun _ _ _ h => h) (.inl ⟨by rfl, fun W hW => load_opM _ rfl w.heap.size rfl (MC m v) _ W hW.2.2.2 rfl⟩) h0 ?_
  simp only [List.setIfInBounds_toArray, List.set_cons_zero, List.set_cons_succ]
  refine hCallR (i := 2) (k := 15) (by kernel_rfl) rfl rfl (by rfl) 51 #[.pointer (some ⟨b, 0, none⟩), .agg (MC m v), .int .i64 8] (by go_simp) (HT2.out) ?_
  rintro e w1 ⟨rfl, hb⟩
  have hB1 := bTr (bDr1 HB0.out) hb
  have hc1 := H.out.drew.below hb
  have h1 : (fun V => V.cell? ⟨b, 6, none⟩ = some (.bool s.opn) ∧ V.cell? ⟨b, 7, none⟩ = some (.int .i64 s.seq) ∧ V.cell? ⟨b, 8, none⟩ = some (.int .i64 s.src) ∧ V.heap[w.heap.size]? = some (.cells (MC m v) 37 (0, 0))) w1 := ⟨(hb.cell (block_lt_cell h0.1)).trans h0.1, (hb.cell (block_lt_cell h0.2.1)).trans h0.2.1, (hb.cell (block_lt_cell h0.2.2.1)).trans h0.2.2.1, (hb.block _ (lt_of_heap h0.2.2.2)).trans h0.2.2.2⟩
  clear hb
  refine ⟨_, rfl, h1, ?_⟩
  simp only [List.setIfInBounds_toArray, List.set_cons_zero, List.set_cons_succ]
  refine hTakeS (i := 3) (k := 16) (v := .bool false) rfl rfl (by kernel_rfl) (by kernel_rfl) (by kernel_rfl) (fun _ _ _ h => h) (yieldsIf_val (by rfl) (by intro W; go_simp)) h1 ?_
  simp only [List.setIfInBounds_toArray, List.set_cons_zero, List.set_cons_succ]
  refine hTakeS (i := 4) (k := 17) (v := .bool false) rfl rfl (by kernel_rfl) (by kernel_rfl) (by kernel_rfl) (fun _ _ _ h => h) (yieldsIf_val (by rfl) (by intro W; go_simp)) h1 ?_
  simp only [List.setIfInBounds_toArray, List.set_cons_zero, List.set_cons_succ]
  refine hTakeS (i := 5) (k := 18) (v := .pointer (some ⟨b, 0, none⟩)) rfl rfl (by kernel_rfl) (by kernel_rfl) (by kernel_rfl) (fun _ _ _ h => h) (yieldsIf_val (by rfl) (by intro W; go_simp)) h1 ?_
  simp only [List.setIfInBounds_toArray, List.set_cons_zero, List.set_cons_succ]
  refine hTakeS (i := 6) (k := 19) (v := .pointer (some ⟨b, 0, none⟩)) rfl rfl (by kernel_rfl) (by kernel_rfl) (by kernel_rfl) (fun _ _ _ h => h) (yieldsIf_val (by rfl) (by intro W; go_simp)) h1 ?_
  simp only [List.setIfInBounds_toArray, List.set_cons_zero, List.set_cons_succ]
  refine hTakeS (i := 7) (k := 20) (v := .pointer (some ⟨b, 6, none⟩)) rfl rfl (by kernel_rfl) (by kernel_rfl) (by kernel_rfl) (fun _ _ _ h => h) (yieldsIf_val (by rfl) (by intro W; go_simp)) h1 ?_
  simp only [List.setIfInBounds_toArray, List.set_cons_zero, List.set_cons_succ]
  refine hTakeS (i := 8) (k := 21) (v := .bool true) rfl rfl (by kernel_rfl) (by kernel_rfl) (by kernel_rfl) (fun _ _ _ h => h) (.inl ⟨by rfl, fun W hW => by obtain ⟨b6, b7, b8, br⟩ := hW; rw [hop] at b6; go_simp⟩) h1 ?_
  simp only [List.setIfInBounds_toArray, List.set_cons_zero, List.set_cons_succ]
  refine hTakeS (i := 9) (k := 22) (v := .bool false) rfl rfl (by kernel_rfl) (by kernel_rfl) (by kernel_rfl) (fun _ _ _ h => h) (yieldsIf_val (by rfl) (by intro W; go_simp)) h1 ?_
  simp only [List.setIfInBounds_toArray, List.set_cons_zero, List.set_cons_succ]
  refine hTakeS (i := 10) (k := 23) (v := .bool false) rfl rfl (by kernel_rfl) (by kernel_rfl) (by kernel_rfl) (fun _ _ _ h => h) (yieldsIf_val (by rfl) (by intro W; go_simp)) h1 ?_
  simp only [List.setIfInBounds_toArray, List.set_cons_zero, List.set_cons_succ]
  refine hTakeS (i := 11) (k := 24) (v := .bool false) rfl rfl (by kernel_rfl) (by kernel_rfl) (by kernel_rfl) (fun _ _ _ h => h) (yieldsIf_val (by rfl) (by intro W; go_simp)) h1 ?_
  simp only [List.setIfInBounds_toArray, List.set_cons_zero, List.set_cons_succ]
  refine hTakeS (i := 12) (k := 25) (v := .pointer (some ⟨w.heap.size, 2, none⟩)) rfl rfl (by kernel_rfl) (by kernel_rfl) (by kernel_rfl) (fun _ _ _ h => h) (yieldsIf_val (by rfl) (by intro W; go_simp)) h1 ?_
  simp only [List.setIfInBounds_toArray, List.set_cons_zero, List.set_cons_succ]
  refine hTakeS (i := 13) (k := 26) (v := .int .i64 m.seq) rfl rfl (by kernel_rfl) (by kernel_rfl) (by kernel_rfl) (fun _ _ _ h => h) (.inl ⟨by rfl, fun W hW => by obtain ⟨b6, b7, b8, br⟩ := hW; have q2 := cell_of_row W w.heap.size 2 _ _ _ br; have q3 := cell_of_row W w.heap.size 3 _ _ _ br; simp only [MC, List.getElem?_toArray, List.getElem?_cons_zero, List.getElem?_cons_succ] at q2 q3; go_simp⟩) h1 ?_
  simp only [List.setIfInBounds_toArray, List.set_cons_zero, List.set_cons_succ]
  refine hTakeS (i := 14) (k := 27) (v := .pointer (some ⟨b, 0, none⟩)) rfl rfl (by kernel_rfl) (by kernel_rfl) (by kernel_rfl) (fun _ _ _ h => h) (yieldsIf_val (by rfl) (by intro W; go_simp)) h1 ?_
  simp only [List.setIfInBounds_toArray, List.set_cons_zero, List.set_cons_succ]
  refine hTakeS (i := 15) (k := 28) (v := .pointer (some ⟨b, 0, none⟩)) rfl rfl (by kernel_rfl) (by kernel_rfl) (by kernel_rfl) (fun _ _ _ h => h) (yieldsIf_val (by rfl) (by intro W; go_simp)) h1 ?_
  simp only [List.setIfInBounds_toArray, List.set_cons_zero, List.set_cons_succ]
  refine hTakeS (i := 16) (k := 29) (v := .pointer (some ⟨b, 7, none⟩)) rfl rfl (by kernel_rfl) (by kernel_rfl) (by kernel_rfl) (fun _ _ _ h => h) (yieldsIf_val (by rfl) (by intro W; go_simp)) h1 ?_
  simp only [List.setIfInBounds_toArray, List.set_cons_zero, List.set_cons_succ]
  refine hTakeS (i := 17) (k := 30) (v := .int .i64 s.seq) rfl rfl (by kernel_rfl) (by kernel_rfl) (by kernel_rfl) (fun _ _ _ h => h) (.inl ⟨by rfl, fun W hW => by obtain ⟨b6, b7, b8, br⟩ := hW; go_simp⟩) h1 ?_
  simp only [List.setIfInBounds_toArray, List.set_cons_zero, List.set_cons_succ]
  refine hTakeS (i := 18) (k := 31) (v := .bool false) rfl rfl (by kernel_rfl) (by kernel_rfl) (by kernel_rfl) (fun _ _ _ h => h) (yieldsIf_val (by rfl) (by intro W; go_simp)) h1 ?_
  simp only [List.setIfInBounds_toArray, List.set_cons_zero, List.set_cons_succ]
  refine hTakeS (i := 19) (k := 32) (v := .bool false) rfl rfl (by kernel_rfl) (by kernel_rfl) (by kernel_rfl) (fun _ _ _ h => h) (yieldsIf_val (by rfl) (by intro W; go_simp)) h1 ?_
  simp only [List.setIfInBounds_toArray, List.set_cons_zero, List.set_cons_succ]
  refine hTakeS (i := 20) (k := 33) (v := .bool false) rfl rfl (by kernel_rfl) (by kernel_rfl) (by kernel_rfl) (fun _ _ _ h => h) (yieldsIf_val (by rfl) (by intro W; go_simp)) h1 ?_
  simp only [List.setIfInBounds_toArray, List.set_cons_zero, List.set_cons_succ]
  refine hTakeS (i := 21) (k := 34) (v := .pointer (some ⟨w.heap.size, 3, none⟩)) rfl rfl (by kernel_rfl) (by kernel_rfl) (by kernel_rfl) (fun _ _ _ h => h) (yieldsIf_val (by rfl) (by intro W; go_simp)) h1 ?_
  simp only [List.setIfInBounds_toArray, List.set_cons_zero, List.set_cons_succ]
  refine hTakeS (i := 22) (k := 35) (v := .int .i64 m.src) rfl rfl (by kernel_rfl) (by kernel_rfl) (by kernel_rfl) (fun _ _ _ h => h) (.inl ⟨by rfl, fun W hW => by obtain ⟨b6, b7, b8, br⟩ := hW; have q2 := cell_of_row W w.heap.size 2 _ _ _ br; have q3 := cell_of_row W w.heap.size 3 _ _ _ br; simp only [MC, List.getElem?_toArray, List.getElem?_cons_zero, List.getElem?_cons_succ] at q2 q3; go_simp⟩) h1 ?_
  simp only [List.setIfInBounds_toArray, List.set_cons_zero, List.set_cons_succ]
  refine hTakeS (i := 23) (k := 36) (v := .pointer (some ⟨b, 0, none⟩)) rfl rfl (by kernel_rfl) (by kernel_rfl) (by kernel_rfl) (fun _ _ _ h => h) (yieldsIf_val (by rfl) (by intro W; go_simp)) h1 ?_
  simp only [List.setIfInBounds_toArray, List.set_cons_zero, List.set_cons_succ]
  refine hTakeS (i := 24) (k := 37) (v := .pointer (some ⟨b, 0, none⟩)) rfl rfl (by kernel_rfl) (by kernel_rfl) (by kernel_rfl) (fun _ _ _ h => h) (yieldsIf_val (by rfl) (by intro W; go_simp)) h1 ?_
  simp only [List.setIfInBounds_toArray, List.set_cons_zero, List.set_cons_succ]
  refine hTakeS (i := 25) (k := 38) (v := .pointer (some ⟨b, 8, none⟩)) rfl rfl (by kernel_rfl) (by kernel_rfl) (by kernel_rfl) (fun _ _ _ h => h) (yieldsIf_val (by rfl) (by intro W; go_simp)) h1 ?_
  simp only [List.setIfInBounds_toArray, List.set_cons_zero, List.set_cons_succ]
  refine hTakeS (i := 26) (k := 39) (v := .int .i64 s.src) rfl rfl (by kernel_rfl) (by kernel_rfl) (by kernel_rfl) (fun _ _ _ h => h) (.inl ⟨by rfl, fun W hW => by obtain ⟨b6, b7, b8, br⟩ := hW; go_simp⟩) h1 ?_
  simp only [List.setIfInBounds_toArray, List.set_cons_zero, List.set_cons_succ]
  refine hTakeS (i := 27) (k := 40) (v := .bool false) rfl rfl (by kernel_rfl) (by kernel_rfl) (by kernel_rfl) (fun _ _ _ h => h) (yieldsIf_val (by rfl) (by intro W; go_simp)) h1 ?_
  simp only [List.setIfInBounds_toArray, List.set_cons_zero, List.set_cons_succ]
  refine hTakeS (i := 28) (k := 41) (v := .bool false) rfl rfl (by kernel_rfl) (by kernel_rfl) (by kernel_rfl) (fun _ _ _ h => h) (yieldsIf_val (by rfl) (by intro W; go_simp)) h1 ?_
  simp only [List.setIfInBounds_toArray, List.set_cons_zero, List.set_cons_succ]
  refine wpAnyH_done (by kernel_rfl) ?_ _
  obtain ⟨k6, k7, k8, hr1⟩ := h1
  have kf := hc1.fz
  have m9 : w1.cell? ⟨w.heap.size, 9, none⟩ = some (.int .i64 m.rate) := cell_of_row _ _ _ _ _ _ hr1
  have s1 := hc1.set 6 (.bool false) (s' := { s with opn := false }) rfl
  have HR1 := Lib.hid (show (w1.setCell ⟨b, 6, none⟩ (.bool false)).heap[w.heap.size]? = some (.cells (MC m v) 37 (0, 0)) from (heap_setCell_other w1 ⟨b, 6, none⟩ w.heap.size _ hne).trans hr1)
  have HG1 := Lib.hid (set_but (ButB.of_below (b := b) hB1) 6 (.bool false))
  have S1 := Lib.hid s1
  clear hc1 hB1 hr1 s1 k7 k8
  go_wp2_with (first
    | (go_at_call 52; (with_reducible refine (H1.out.go _).mono ?_); rintro e w2 ⟨rfl, hb⟩; have S2 := Lib.hid (S1.out.below hb); have HG2 := Lib.hid (HG1.out.trans (ButB.of_below (b := b) hb)); have HR2 := Lib.hid ((hb.block _ (lt_of_heap HR1.out)).trans HR1.out); clear hb)
    | (go_at_call 53; (with_reducible refine (H2.out.go _).mono ?_); rintro e w3 ⟨rfl, hb⟩; have S3 := Lib.hid (S2.out.below hb); have HG3 := Lib.hid (HG2.out.trans (ButB.of_below (b := b) hb)); have HR3 := Lib.hid ((hb.block _ (lt_of_heap HR2.out)).trans HR2.out); clear hb)
    | ((with_reducible refine at_loadM ?_); refine wpList_loadM rfl _ rfl w.heap.size rfl (MC m v) _ HR3.out rfl ?_)
    | (go_at_call 54; (with_reducible refine (H3.out _).mono ?_); rintro e w4 ⟨rfl, hb⟩; have S4 := Lib.hid (S3.out.below hb); have HG4 := Lib.hid (HG3.out.trans (ButB.of_below (b := b) hb)); have j9 := S4.out.c9; clear hb)
    | (go_at_call 50; (with_reducible refine (know_any S4.out _ _ _).mono ?_); rintro e w5 ⟨rfl, hc, hb⟩; have HF := Lib.hid hc; have HG5 := Lib.hid (HG4.out.trans hb); clear hc hb))
  go_ret
  exact ⟨rfl, HF.out, HG5.out⟩
/-- What a Follow answers, and what it leaves. -/
def CS.hears (s : CS) (m : Mg) (x : Nat) : Bool := s.takes m 8 x && (s.opn && (!(m.seq != s.seq) && !(m.src != s.src)))
def CS.folE (s : CS) (m : Mg) (x : Nat) (delay ratio : Int) : Int :=
  if s.hears m x = true then (if rE m.rate ratio 2199023255552 = 0 then (if Right (rV m.rate ratio 2199023255552) then arE m.corr m.time delay (rV m.rate ratio 2199023255552) else 50) else rE m.rate ratio 2199023255552) else 31
def CS.folS (s : CS) (m : Mg) (x : Nat) (delay ratio : Int) : CS :=
  if s.hears m x = true then (if s.folE m x delay ratio = 0 then s.told (arV m.corr m.time delay (rV m.rate ratio 2199023255552)) (rV m.rate ratio 2199023255552) else { s with opn := false }) else s
set_option maxHeartbeats 1000000 in
theorem follow_any (h : Ck w b s) (m : Mg) (v : Value) (hm : m.Wf) {delay ratio : Int} (id : In64 delay) (io : In64 ratio) {x : Nat} (hC : ChkTo w m v x) : Calls Try.prog 29 #[.pointer (some ⟨b, 0, none⟩), .agg (MC m v), .int .i64 delay, .int .i64 ratio] w fun e w' => e = .returned (.int .i64 (s.folE m x delay ratio)) ∧ LeaveC b w (s.folS m x delay ratio) w' := by
  have hT := fun W (hb : Below w.heap.size w W) => takes_any (h.below hb) m v 8 (hC.mono hb)
  obtain ⟨f0, f1, f2, f3, f4, f5, f6, f7, f8, f9, f10⟩ := hm
  have hno : Calls Try.prog 29 #[.pointer (some ⟨b, 0, none⟩), .agg (MC m v), .int .i64 delay, .int .i64 ratio] w (fun e w' => e = .returned (.int .i64 31) ∧ Below w.heap.size w w') → s.hears m x = false → Calls Try.prog 29 #[.pointer (some ⟨b, 0, none⟩), .agg (MC m v), .int .i64 delay, .int .i64 ratio] w fun e w' => e = .returned (.int .i64 (s.folE m x delay ratio)) ∧ LeaveC b w (s.folS m x delay ratio) w' := by
    intro hc hh
    unfold CS.folE CS.folS
    rw [hh]
    refine hc.mono ?_
    rintro e w1 ⟨rfl, hb⟩
    exact ⟨rfl, h.below hb, ButB.of_below hb⟩
  cases ht : s.takes m 8 x with
  | false =>
    rw [ht] at hT
    exact hno (follow_no h m v delay ratio hT) (by unfold CS.hears; rw [ht]; rfl)
  | true =>
    rw [ht] at hT
    cases hop : s.opn with
    | false => exact hno (follow_shut h m v delay ratio hT hop) (by unfold CS.hears; rw [ht, hop]; rfl)
    | true =>
      cases hq : (m.seq != s.seq) with
      | true => exact hno (follow_seq h m v delay ratio hT hop hq) (by unfold CS.hears; rw [ht, hop, hq]; rfl)
      | false =>
        cases hs : (m.src != s.src) with
        | true => exact hno (follow_src h m v delay ratio hT hop hq hs) (by unfold CS.hears; rw [ht, hop, hq, hs]; rfl)
        | false =>
          have hh : s.hears m x = true := by unfold CS.hears; rw [ht, hop, hq, hs]; rfl
          have H1 := rMul_ret f9 io
          have iz := rV_64 m.rate ratio 2199023255552
          unfold CS.folS CS.folE
          simp only [hh, if_true]
          generalize rE m.rate ratio 2199023255552 = q at *
          generalize rV m.rate ratio 2199023255552 = z at *
          by_cases h0 : q = 0
          · subst h0
            simp only [if_true]
            have H2 := rCheck_ret z
            by_cases hr : Right z
            · rw [if_pos hr] at H2
              simp only [if_pos hr]
              have H3 := fun W => arrival_any m v f5 f6 id iz W
              generalize arE m.corr m.time delay z = ae at *
              generalize arV m.corr m.time delay z = av at *
              by_cases ha : ae = 0
              · subst ha
                simp only [if_true]
                exact follow_yes h m v delay ratio hT hop hq hs H1 H2 H3
              · simp only [if_neg ha]
                exact follow_far h m v delay ratio hT hop hq hs H1 H2 H3 (by rw [bne_iff_ne]; exact ha)
            · rw [if_neg hr] at H2
              simp only [if_neg hr]
              exact follow_rate h m v delay ratio hT hop hq hs H1 H2
          · simp only [if_neg h0]
            exact follow_mul h m v delay ratio hT hop hq hs H1 (by rw [bne_iff_ne]; exact h0)
theorem CS.Ok.folS (hs : s.Ok) (m : Mg) (x : Nat) (delay ratio : Int) : (s.folS m x delay ratio).Ok := by
  unfold CS.folS
  split
  · split
    · exact ⟨hs.came, arV_64 _ _ _ _, rV_64 m.rate ratio 2199023255552, hs.came⟩
    · exact ⟨hs.here, hs.there, hs.rate, hs.came⟩
  · exact hs
end

end Go.Proofs.Ytfeoppbincldfaa
