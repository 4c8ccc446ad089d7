/- Package pair: Sync, Follow. -/
import Derived.Test.YtfeoppbincldfaaPrAt
namespace Go.Proofs.Ytfeoppbincldfaa
open Go.RowKit Go.Joins

section
variable {w : World} {p k0 k1 : Nat} {s : PP}
set_option maxRecDepth 20000 in
set_option maxHeartbeats 2000000 in
theorem nil_follow (m : Mg) (v : Value) (delay ratio : Int) (w : World) : Calls Try.prog 29 #[.pointer none, .agg (MC m v), .int .i64 delay, .int .i64 ratio] w fun e w' => e = .returned (.int .i64 31) ∧ Below w.heap.size w w' := by
  have hb0 := bAl (bRef w) (.cells (MC m v) 37)
  have HT2 := Lib.hid (nil_takes m v 8 (w.alloc (.cells (MC m v) 37)).drew)
  have HB0 := Lib.hid hb0
  have HS : Hid ((fun V => V.heap[w.heap.size]? = some (.cells (MC m v) 37 (0, 0))) (w.alloc (.cells (MC m v) 37)).drew) := Lib.hid (heap_alloc_new w (.cells (MC m v) 37))
  clear hb0
  unfold MC
  go_enter Try.func29, Try.ntmps29
  go_wp2_with fail
  refine wp_region_held_drew (S := fun V => V.heap[w.heap.size]? = some (.cells (MC m v) 37 (0, 0))) (by kernel_rfl) HS.out (fun h0 => ?_)
  refine hTakeS (i := 0) (k := 13) (v := .pointer none) rfl rfl (by kernel_rfl) (by kernel_rfl) (by kernel_rfl) (fun _ _ _ h => h) (yieldsIf_val (by rfl) (by intro W; go_simp)) h0 ?_
  simp only [List.setIfInBounds_toArray, List.set_cons_zero, List.set_cons_succ]
  refine hTakeS (i := 1) (k := 14) (v := .agg (MC m v)) rfl rfl (by kernel_rfl) (by kernel_rfl) (by kernel_rfl) (fun _ _ _ h => h) (.inl ⟨by rfl, fun W hW => load_opM _ rfl w.heap.size rfl (MC m v) _ W hW rfl⟩) h0 ?_
  simp only [List.setIfInBounds_toArray, List.set_cons_zero, List.set_cons_succ]
  refine hCallR (i := 2) (k := 15) (by kernel_rfl) rfl rfl (by rfl) 51 #[.pointer none, .agg (MC m v), .int .i64 8] (by go_simp) (HT2.out) ?_
  rintro e w1 ⟨rfl, hb⟩
  have hB1 := bTr (bDr1 HB0.out) hb
  have h1 : (fun V => V.heap[w.heap.size]? = some (.cells (MC m v) 37 (0, 0))) w1 := (hb.block _ (lt_of_heap h0)).trans h0
  clear hb
  refine ⟨_, rfl, h1, ?_⟩
  simp only [List.setIfInBounds_toArray, List.set_cons_zero, List.set_cons_succ]
  refine hTakeS (i := 3) (k := 16) (v := .bool true) rfl rfl (by kernel_rfl) (by kernel_rfl) (by kernel_rfl) (fun _ _ _ h => h) (yieldsIf_val (by rfl) (by intro W; go_simp)) h1 ?_
  simp only [List.setIfInBounds_toArray, List.set_cons_zero, List.set_cons_succ]
  refine hTakeS (i := 4) (k := 17) (v := .bool true) rfl rfl (by kernel_rfl) (by kernel_rfl) (by kernel_rfl) (fun _ _ _ h => h) (yieldsIf_val (by rfl) (by intro W; go_simp)) h1 ?_
  simp only [List.setIfInBounds_toArray, List.set_cons_zero, List.set_cons_succ]
  refine hTakeS (i := 5) (k := 18) (v := undef) rfl rfl (by kernel_rfl) (by kernel_rfl) (by kernel_rfl) (fun _ _ _ h => h) (yieldsIf_skip (by rfl)) h1 ?_
  simp only [List.setIfInBounds_toArray, List.set_cons_zero, List.set_cons_succ]
  refine hTakeS (i := 6) (k := 19) (v := undef) rfl rfl (by kernel_rfl) (by kernel_rfl) (by kernel_rfl) (fun _ _ _ h => h) (yieldsIf_skip (by rfl)) h1 ?_
  simp only [List.setIfInBounds_toArray, List.set_cons_zero, List.set_cons_succ]
  refine hTakeS (i := 7) (k := 20) (v := undef) rfl rfl (by kernel_rfl) (by kernel_rfl) (by kernel_rfl) (fun _ _ _ h => h) (yieldsIf_skip (by rfl)) h1 ?_
  simp only [List.setIfInBounds_toArray, List.set_cons_zero, List.set_cons_succ]
  refine hTakeS (i := 8) (k := 21) (v := undef) rfl rfl (by kernel_rfl) (by kernel_rfl) (by kernel_rfl) (fun _ _ _ h => h) (yieldsIf_skip (by rfl)) h1 ?_
  simp only [List.setIfInBounds_toArray, List.set_cons_zero, List.set_cons_succ]
  refine hTakeS (i := 9) (k := 22) (v := undef) rfl rfl (by kernel_rfl) (by kernel_rfl) (by kernel_rfl) (fun _ _ _ h => h) (yieldsIf_skip (by rfl)) h1 ?_
  simp only [List.setIfInBounds_toArray, List.set_cons_zero, List.set_cons_succ]
  refine hTakeS (i := 10) (k := 23) (v := .bool true) rfl rfl (by kernel_rfl) (by kernel_rfl) (by kernel_rfl) (fun _ _ _ h => h) (yieldsIf_val (by rfl) (by intro W; go_simp)) h1 ?_
  simp only [List.setIfInBounds_toArray, List.set_cons_zero, List.set_cons_succ]
  refine hTakeS (i := 11) (k := 24) (v := .bool true) rfl rfl (by kernel_rfl) (by kernel_rfl) (by kernel_rfl) (fun _ _ _ h => h) (yieldsIf_val (by rfl) (by intro W; go_simp)) h1 ?_
  simp only [List.setIfInBounds_toArray, List.set_cons_zero, List.set_cons_succ]
  refine hTakeS (i := 12) (k := 25) (v := undef) rfl rfl (by kernel_rfl) (by kernel_rfl) (by kernel_rfl) (fun _ _ _ h => h) (yieldsIf_skip (by rfl)) h1 ?_
  simp only [List.setIfInBounds_toArray, List.set_cons_zero, List.set_cons_succ]
  refine hTakeS (i := 13) (k := 26) (v := undef) rfl rfl (by kernel_rfl) (by kernel_rfl) (by kernel_rfl) (fun _ _ _ h => h) (yieldsIf_skip (by rfl)) h1 ?_
  simp only [List.setIfInBounds_toArray, List.set_cons_zero, List.set_cons_succ]
  refine hTakeS (i := 14) (k := 27) (v := undef) rfl rfl (by kernel_rfl) (by kernel_rfl) (by kernel_rfl) (fun _ _ _ h => h) (yieldsIf_skip (by rfl)) h1 ?_
  simp only [List.setIfInBounds_toArray, List.set_cons_zero, List.set_cons_succ]
  refine hTakeS (i := 15) (k := 28) (v := undef) rfl rfl (by kernel_rfl) (by kernel_rfl) (by kernel_rfl) (fun _ _ _ h => h) (yieldsIf_skip (by rfl)) h1 ?_
  simp only [List.setIfInBounds_toArray, List.set_cons_zero, List.set_cons_succ]
  refine hTakeS (i := 16) (k := 29) (v := undef) rfl rfl (by kernel_rfl) (by kernel_rfl) (by kernel_rfl) (fun _ _ _ h => h) (yieldsIf_skip (by rfl)) h1 ?_
  simp only [List.setIfInBounds_toArray, List.set_cons_zero, List.set_cons_succ]
  refine hTakeS (i := 17) (k := 30) (v := undef) rfl rfl (by kernel_rfl) (by kernel_rfl) (by kernel_rfl) (fun _ _ _ h => h) (yieldsIf_skip (by rfl)) h1 ?_
  simp only [List.setIfInBounds_toArray, List.set_cons_zero, List.set_cons_succ]
  refine hTakeS (i := 18) (k := 31) (v := undef) rfl rfl (by kernel_rfl) (by kernel_rfl) (by kernel_rfl) (fun _ _ _ h => h) (yieldsIf_skip (by rfl)) h1 ?_
  simp only [List.setIfInBounds_toArray, List.set_cons_zero, List.set_cons_succ]
  refine hTakeS (i := 19) (k := 32) (v := .bool true) rfl rfl (by kernel_rfl) (by kernel_rfl) (by kernel_rfl) (fun _ _ _ h => h) (yieldsIf_val (by rfl) (by intro W; go_simp)) h1 ?_
  simp only [List.setIfInBounds_toArray, List.set_cons_zero, List.set_cons_succ]
  refine hTakeS (i := 20) (k := 33) (v := .bool true) rfl rfl (by kernel_rfl) (by kernel_rfl) (by kernel_rfl) (fun _ _ _ h => h) (yieldsIf_val (by rfl) (by intro W; go_simp)) h1 ?_
  simp only [List.setIfInBounds_toArray, List.set_cons_zero, List.set_cons_succ]
  refine hTakeS (i := 21) (k := 34) (v := undef) rfl rfl (by kernel_rfl) (by kernel_rfl) (by kernel_rfl) (fun _ _ _ h => h) (yieldsIf_skip (by rfl)) h1 ?_
  simp only [List.setIfInBounds_toArray, List.set_cons_zero, List.set_cons_succ]
  refine hTakeS (i := 22) (k := 35) (v := undef) rfl rfl (by kernel_rfl) (by kernel_rfl) (by kernel_rfl) (fun _ _ _ h => h) (yieldsIf_skip (by rfl)) h1 ?_
  simp only [List.setIfInBounds_toArray, List.set_cons_zero, List.set_cons_succ]
  refine hTakeS (i := 23) (k := 36) (v := undef) rfl rfl (by kernel_rfl) (by kernel_rfl) (by kernel_rfl) (fun _ _ _ h => h) (yieldsIf_skip (by rfl)) h1 ?_
  simp only [List.setIfInBounds_toArray, List.set_cons_zero, List.set_cons_succ]
  refine hTakeS (i := 24) (k := 37) (v := undef) rfl rfl (by kernel_rfl) (by kernel_rfl) (by kernel_rfl) (fun _ _ _ h => h) (yieldsIf_skip (by rfl)) h1 ?_
  simp only [List.setIfInBounds_toArray, List.set_cons_zero, List.set_cons_succ]
  refine hTakeS (i := 25) (k := 38) (v := undef) rfl rfl (by kernel_rfl) (by kernel_rfl) (by kernel_rfl) (fun _ _ _ h => h) (yieldsIf_skip (by rfl)) h1 ?_
  simp only [List.setIfInBounds_toArray, List.set_cons_zero, List.set_cons_succ]
  refine hTakeS (i := 26) (k := 39) (v := undef) rfl rfl (by kernel_rfl) (by kernel_rfl) (by kernel_rfl) (fun _ _ _ h => h) (yieldsIf_skip (by rfl)) h1 ?_
  simp only [List.setIfInBounds_toArray, List.set_cons_zero, List.set_cons_succ]
  refine hTakeS (i := 27) (k := 40) (v := undef) rfl rfl (by kernel_rfl) (by kernel_rfl) (by kernel_rfl) (fun _ _ _ h => h) (yieldsIf_skip (by rfl)) h1 ?_
  simp only [List.setIfInBounds_toArray, List.set_cons_zero, List.set_cons_succ]
  refine hTakeS (i := 28) (k := 41) (v := .bool true) rfl rfl (by kernel_rfl) (by kernel_rfl) (by kernel_rfl) (fun _ _ _ h => h) (yieldsIf_val (by rfl) (by intro W; go_simp)) h1 ?_
  simp only [List.setIfInBounds_toArray, List.set_cons_zero, List.set_cons_succ]
  refine wpAnyH_done (by kernel_rfl) ?_ _
  go_wp2_with fail
  go_ret
  exact ⟨rfl, hB1⟩
set_option maxRecDepth 20000 in
set_option maxHeartbeats 2000000 in
theorem psync_by {w : World} {q k : Value} {z : Int} {L : World → World → Prop} (m : Mg) (v : Value) (x : Int) (HC : ∀ W, Below w.heap.size w W → Calls Try.prog 43 #[q, .int .i64 m.dom] W fun e w' => e = .returned k ∧ w' = W)
    (HF : ∀ W, Below w.heap.size w W → Calls Try.prog 28 #[k, .agg (MC m v), .int .i64 x] W fun e w' => e = .returned (.int .i64 z) ∧ L W w') (HL : ∀ W w', L W w' → w.heap.size < W.heap.size → w'.heap[w.heap.size]? = W.heap[w.heap.size]?) : Calls Try.prog 20 #[q, .agg (MC m v), .int .i64 x] w fun e w' => e = .returned (.int .i64 z) ∧ ∃ W, Below w.heap.size w W ∧ L W w' := by
  have hb0 := bAl (bRef w) (.cells (MC m v) 37)
  have HB0 := Lib.hid hb0
  have HS : Hid ((fun V => V.heap[w.heap.size]? = some (.cells (MC m v) 37 (0, 0))) (w.alloc (.cells (MC m v) 37)).drew) := Lib.hid (heap_alloc_new w (.cells (MC m v) 37))
  replace HC := Lib.hid HC
  replace HF := Lib.hid HF
  clear hb0
  unfold MC
  go_enter Try.func20, Try.ntmps20
  go_wp2_with fail
  refine wp_region_held_drew (S := fun V => V.heap[w.heap.size]? = some (.cells (MC m v) 37 (0, 0))) (by kernel_rfl) HS.out (fun h0 => ?_)
  refine hTakeS (i := 0) (k := 7) (v := q) rfl rfl (by kernel_rfl) (by kernel_rfl) (by kernel_rfl) (fun _ _ _ h => h) (yieldsIf_val (by rfl) (by intro W; go_simp)) h0 ?_
  simp only [List.setIfInBounds_toArray, List.set_cons_zero, List.set_cons_succ]
  refine hTakeS (i := 1) (k := 8) (v := .pointer (some ⟨w.heap.size, 1, none⟩)) rfl rfl (by kernel_rfl) (by kernel_rfl) (by kernel_rfl) (fun _ _ _ h => h) (yieldsIf_val (by rfl) (by intro W; go_simp)) h0 ?_
  simp only [List.setIfInBounds_toArray, List.set_cons_zero, List.set_cons_succ]
  refine hTakeS (i := 2) (k := 9) (v := .int .i64 m.dom) rfl rfl (by kernel_rfl) (by kernel_rfl) (by kernel_rfl) (fun _ _ _ h => h) (.inl ⟨by rfl, fun W hW => by have q1 := cell_of_row W w.heap.size 1 _ _ _ hW; simp only [MC, List.getElem?_toArray, List.getElem?_cons_zero, List.getElem?_cons_succ] at q1; go_simp⟩) h0 ?_
  simp only [List.setIfInBounds_toArray, List.set_cons_zero, List.set_cons_succ]
  refine hTakeS (i := 5) (k := 12) (v := .int .i64 x) rfl rfl (by kernel_rfl) (by kernel_rfl) (by kernel_rfl) (fun _ _ _ h => h) (yieldsIf_val (by rfl) (by intro W; go_simp)) h0 ?_
  simp only [List.setIfInBounds_toArray, List.set_cons_zero, List.set_cons_succ]
  refine hTakeS (i := 4) (k := 11) (v := .agg (MC m v)) rfl rfl (by kernel_rfl) (by kernel_rfl) (by kernel_rfl) (fun _ _ _ h => h) (.inl ⟨by rfl, fun W hW => load_opM _ rfl w.heap.size rfl (MC m v) _ W hW rfl⟩) h0 ?_
  simp only [List.setIfInBounds_toArray, List.set_cons_zero, List.set_cons_succ]
  refine hCallR (i := 3) (k := 10) (by kernel_rfl) rfl rfl (by rfl) 43 #[q, .int .i64 m.dom] (by go_simp) (HC.out _ (bDr1 HB0.out)) ?_
  rintro e w1 ⟨rfl, rfl⟩
  refine ⟨_, rfl, h0, ?_⟩
  simp only [List.setIfInBounds_toArray, List.set_cons_zero, List.set_cons_succ]
  refine hCallR (i := 6) (k := 13) (by kernel_rfl) rfl rfl (by rfl) 28 #[k, .agg (MC m v), .int .i64 x] (by go_simp) (HF.out _ (bDr1 HB0.out)) ?_
  rintro e w2 ⟨rfl, hl⟩
  have h1 : (fun V => V.heap[w.heap.size]? = some (.cells (MC m v) 37 (0, 0))) w2 := (HL _ _ hl (lt_of_heap h0)).trans h0
  refine ⟨_, rfl, h1, ?_⟩
  simp only [List.setIfInBounds_toArray, List.set_cons_zero, List.set_cons_succ]
  refine hTakeS (i := 7) (k := 6) (v := .int .i64 z) rfl rfl (by kernel_rfl) (by kernel_rfl) (by kernel_rfl) (fun _ _ _ h => h) (yieldsIf_val (by rfl) (by intro W; go_simp)) h1 ?_
  simp only [List.setIfInBounds_toArray, List.set_cons_zero, List.set_cons_succ]
  refine wpAnyH_done (by kernel_rfl) ?_ _
  go_wp2_with fail
  go_ret
  exact ⟨rfl, _, bDr1 HB0.out, hl⟩
set_option maxRecDepth 20000 in
set_option maxHeartbeats 2000000 in
theorem pfollow_by {w : World} {q k : Value} {z : Int} {L : World → World → Prop} (m : Mg) (v : Value) (x y : Int) (HC : ∀ W, Below w.heap.size w W → Calls Try.prog 43 #[q, .int .i64 m.dom] W fun e w' => e = .returned k ∧ w' = W)
    (HF : ∀ W, Below w.heap.size w W → Calls Try.prog 29 #[k, .agg (MC m v), .int .i64 x, .int .i64 y] W fun e w' => e = .returned (.int .i64 z) ∧ L W w') (HL : ∀ W w', L W w' → w.heap.size < W.heap.size → w'.heap[w.heap.size]? = W.heap[w.heap.size]?) : Calls Try.prog 21 #[q, .agg (MC m v), .int .i64 x, .int .i64 y] w fun e w' => e = .returned (.int .i64 z) ∧ ∃ W, Below w.heap.size w W ∧ L W w' := by
  have hb0 := bAl (bRef w) (.cells (MC m v) 37)
  have HB0 := Lib.hid hb0
  have HS : Hid ((fun V => V.heap[w.heap.size]? = some (.cells (MC m v) 37 (0, 0))) (w.alloc (.cells (MC m v) 37)).drew) := Lib.hid (heap_alloc_new w (.cells (MC m v) 37))
  replace HC := Lib.hid HC
  replace HF := Lib.hid HF
  clear hb0
  unfold MC
  go_enter Try.func21, Try.ntmps21
  go_wp2_with fail
  refine wp_region_held_drew (S := fun V => V.heap[w.heap.size]? = some (.cells (MC m v) 37 (0, 0))) (by kernel_rfl) HS.out (fun h0 => ?_)
  refine hTakeS (i := 0) (k := 9) (v := q) rfl rfl (by kernel_rfl) (by kernel_rfl) (by kernel_rfl) (fun _ _ _ h => h) (yieldsIf_val (by rfl) (by intro W; go_simp)) h0 ?_
  simp only [List.setIfInBounds_toArray, List.set_cons_zero, List.set_cons_succ]
  refine hTakeS (i := 1) (k := 10) (v := .pointer (some ⟨w.heap.size, 1, none⟩)) rfl rfl (by kernel_rfl) (by kernel_rfl) (by kernel_rfl) (fun _ _ _ h => h) (yieldsIf_val (by rfl) (by intro W; go_simp)) h0 ?_
  simp only [List.setIfInBounds_toArray, List.set_cons_zero, List.set_cons_succ]
  refine hTakeS (i := 2) (k := 11) (v := .int .i64 m.dom) rfl rfl (by kernel_rfl) (by kernel_rfl) (by kernel_rfl) (fun _ _ _ h => h) (.inl ⟨by rfl, fun W hW => by have q1 := cell_of_row W w.heap.size 1 _ _ _ hW; simp only [MC, List.getElem?_toArray, List.getElem?_cons_zero, List.getElem?_cons_succ] at q1; go_simp⟩) h0 ?_
  simp only [List.setIfInBounds_toArray, List.set_cons_zero, List.set_cons_succ]
  refine hTakeS (i := 5) (k := 14) (v := .int .i64 x) rfl rfl (by kernel_rfl) (by kernel_rfl) (by kernel_rfl) (fun _ _ _ h => h) (yieldsIf_val (by rfl) (by intro W; go_simp)) h0 ?_
  simp only [List.setIfInBounds_toArray, List.set_cons_zero, List.set_cons_succ]
  refine hTakeS (i := 6) (k := 15) (v := .int .i64 y) rfl rfl (by kernel_rfl) (by kernel_rfl) (by kernel_rfl) (fun _ _ _ h => h) (yieldsIf_val (by rfl) (by intro W; go_simp)) h0 ?_
  simp only [List.setIfInBounds_toArray, List.set_cons_zero, List.set_cons_succ]
  refine hTakeS (i := 4) (k := 13) (v := .agg (MC m v)) rfl rfl (by kernel_rfl) (by kernel_rfl) (by kernel_rfl) (fun _ _ _ h => h) (.inl ⟨by rfl, fun W hW => load_opM _ rfl w.heap.size rfl (MC m v) _ W hW rfl⟩) h0 ?_
  simp only [List.setIfInBounds_toArray, List.set_cons_zero, List.set_cons_succ]
  refine hCallR (i := 3) (k := 12) (by kernel_rfl) rfl rfl (by rfl) 43 #[q, .int .i64 m.dom] (by go_simp) (HC.out _ (bDr1 HB0.out)) ?_
  rintro e w1 ⟨rfl, rfl⟩
  refine ⟨_, rfl, h0, ?_⟩
  simp only [List.setIfInBounds_toArray, List.set_cons_zero, List.set_cons_succ]
  refine hCallR (i := 7) (k := 16) (by kernel_rfl) rfl rfl (by rfl) 29 #[k, .agg (MC m v), .int .i64 x, .int .i64 y] (by go_simp) (HF.out _ (bDr1 HB0.out)) ?_
  rintro e w2 ⟨rfl, hl⟩
  have h1 : (fun V => V.heap[w.heap.size]? = some (.cells (MC m v) 37 (0, 0))) w2 := (HL _ _ hl (lt_of_heap h0)).trans h0
  refine ⟨_, rfl, h1, ?_⟩
  simp only [List.setIfInBounds_toArray, List.set_cons_zero, List.set_cons_succ]
  refine hTakeS (i := 8) (k := 8) (v := .int .i64 z) rfl rfl (by kernel_rfl) (by kernel_rfl) (by kernel_rfl) (fun _ _ _ h => h) (yieldsIf_val (by rfl) (by intro W; go_simp)) h1 ?_
  simp only [List.setIfInBounds_toArray, List.set_cons_zero, List.set_cons_succ]
  refine wpAnyH_done (by kernel_rfl) ?_ _
  go_wp2_with fail
  go_ret
  exact ⟨rfl, _, bDr1 HB0.out, hl⟩
def PP.inE (s : PP) (m : Mg) : Int := if m.dom = 0 then s.a.syncE m m.chk else if m.dom = 1 then s.b.syncE m m.chk else 31
def PP.inS (s : PP) (m : Mg) (x : Int) : PP := if m.dom = 0 then { s with a := s.a.syncS m m.chk x } else if m.dom = 1 then { s with b := s.b.syncS m m.chk x } else s
theorem psync_any (h : Pw w p k0 k1 s) (m : Mg) (v : Value) (hm : m.Wf) (hA : LArg w v m.path) (hl : m.path.length ≤ 140737488355328) (x : Int) : Calls Try.prog 20 #[.pointer (some ⟨p, 0, none⟩), .agg (MC m v), .int .i64 x] w fun e w' => e = .returned (.int .i64 (s.inE m)) ∧ LeaveP p k0 k1 w (s.inS m x) w' := by
  have hC := ChkTo.of hm hA hl
  unfold PP.inE PP.inS
  by_cases h0 : m.dom = 0
  · rw [if_pos h0, if_pos h0]
    refine (psync_by (k := .pointer (some ⟨k0, 0, none⟩)) (L := fun W w' => LeaveC k0 W (s.a.syncS m m.chk x) w') m v x (fun W hb => by rw [h0]; exact clock_zero (h.below hb)) (fun W hb => sync_any (h.c0.below hb) m v x (hC.mono hb)) (fun W w' hl hz => hl.2.block _ hz (by have := h.c0.lt; omega))).mono ?_
    rintro e w' ⟨rfl, W, hb, hl⟩
    exact ⟨rfl, (h.below hb).turn0 hl, (ButS.of_below hb).trans (ButS.of_but hl.2 m1)⟩
  · rw [if_neg h0, if_neg h0]
    by_cases h1 : m.dom = 1
    · rw [if_pos h1, if_pos h1]
      refine (psync_by (k := .pointer (some ⟨k1, 0, none⟩)) (L := fun W w' => LeaveC k1 W (s.b.syncS m m.chk x) w') m v x (fun W hb => by rw [h1]; exact clock_one (h.below hb)) (fun W hb => sync_any (h.c1.below hb) m v x (hC.mono hb)) (fun W w' hl hz => hl.2.block _ hz (by have := h.c1.lt; omega))).mono ?_
      rintro e w' ⟨rfl, W, hb, hl⟩
      exact ⟨rfl, (h.below hb).turn1 hl, (ButS.of_below hb).trans (ButS.of_but hl.2 m2)⟩
    · rw [if_neg h1, if_neg h1]
      refine (psync_by (k := .pointer none) (L := fun W w' => Below W.heap.size W w') m v x (fun W hb => clock_out p W (by rw [decide_eq_false h0, decide_eq_false h1]; rfl)) (fun W hb => nil_sync m v x W) (fun W w' hl hz => hl.block _ hz)).mono ?_
      rintro e w' ⟨rfl, W, hb, hl⟩
      exact ⟨rfl, h.below (bTr hb hl), ButS.of_below (bTr hb hl)⟩
theorem psync_nil (m : Mg) (v : Value) (x : Int) (w : World) : Calls Try.prog 20 #[.pointer none, .agg (MC m v), .int .i64 x] w fun e w' => e = .returned (.int .i64 31) ∧ Below w.heap.size w w' := by
  refine (psync_by (k := .pointer none) (L := fun W w' => Below W.heap.size W w') m v x (fun W hb => clock_nil m.dom W) (fun W hb => nil_sync m v x W) (fun W w' hl hz => hl.block _ hz)).mono ?_
  rintro e w' ⟨rfl, W, hb, hl⟩
  exact ⟨rfl, bTr hb hl⟩
def PP.folE (s : PP) (m : Mg) (x y : Int) : Int := if m.dom = 0 then s.a.folE m m.chk x y else if m.dom = 1 then s.b.folE m m.chk x y else 31
def PP.folS (s : PP) (m : Mg) (x y : Int) : PP := if m.dom = 0 then { s with a := s.a.folS m m.chk x y } else if m.dom = 1 then { s with b := s.b.folS m m.chk x y } else s
theorem pfollow_any (h : Pw w p k0 k1 s) (m : Mg) (v : Value) (hm : m.Wf) (hA : LArg w v m.path) (hl : m.path.length ≤ 140737488355328) {x y : Int} (hx : In64 x) (hy : In64 y) : Calls Try.prog 21 #[.pointer (some ⟨p, 0, none⟩), .agg (MC m v), .int .i64 x, .int .i64 y] w fun e w' => e = .returned (.int .i64 (s.folE m x y)) ∧ LeaveP p k0 k1 w (s.folS m x y) w' := by
  have hC := ChkTo.of hm hA hl
  unfold PP.folE PP.folS
  by_cases h0 : m.dom = 0
  · rw [if_pos h0, if_pos h0]
    refine (pfollow_by (k := .pointer (some ⟨k0, 0, none⟩)) (L := fun W w' => LeaveC k0 W (s.a.folS m m.chk x y) w') m v x y (fun W hb => by rw [h0]; exact clock_zero (h.below hb)) (fun W hb => follow_any (h.c0.below hb) m v hm hx hy (hC.mono hb)) (fun W w' hl hz => hl.2.block _ hz (by have := h.c0.lt; omega))).mono ?_
    rintro e w' ⟨rfl, W, hb, hl⟩
    exact ⟨rfl, (h.below hb).turn0 hl, (ButS.of_below hb).trans (ButS.of_but hl.2 m1)⟩
  · rw [if_neg h0, if_neg h0]
    by_cases h1 : m.dom = 1
    · rw [if_pos h1, if_pos h1]
      refine (pfollow_by (k := .pointer (some ⟨k1, 0, none⟩)) (L := fun W w' => LeaveC k1 W (s.b.folS m m.chk x y) w') m v x y (fun W hb => by rw [h1]; exact clock_one (h.below hb)) (fun W hb => follow_any (h.c1.below hb) m v hm hx hy (hC.mono hb)) (fun W w' hl hz => hl.2.block _ hz (by have := h.c1.lt; omega))).mono ?_
      rintro e w' ⟨rfl, W, hb, hl⟩
      exact ⟨rfl, (h.below hb).turn1 hl, (ButS.of_below hb).trans (ButS.of_but hl.2 m2)⟩
    · rw [if_neg h1, if_neg h1]
      refine (pfollow_by (k := .pointer none) (L := fun W w' => Below W.heap.size W w') m v x y (fun W hb => clock_out p W (by rw [decide_eq_false h0, decide_eq_false h1]; rfl)) (fun W hb => nil_follow m v x y W) (fun W w' hl hz => hl.block _ hz)).mono ?_
      rintro e w' ⟨rfl, W, hb, hl⟩
      exact ⟨rfl, h.below (bTr hb hl), ButS.of_below (bTr hb hl)⟩
theorem pfollow_nil (m : Mg) (v : Value) (x y : Int) (w : World) : Calls Try.prog 21 #[.pointer none, .agg (MC m v), .int .i64 x, .int .i64 y] w fun e w' => e = .returned (.int .i64 31) ∧ Below w.heap.size w w' := by
  refine (pfollow_by (k := .pointer none) (L := fun W w' => Below W.heap.size W w') m v x y (fun W hb => clock_nil m.dom W) (fun W hb => nil_follow m v x y W) (fun W w' hl hz => hl.block _ hz)).mono ?_
  rintro e w' ⟨rfl, W, hb, hl⟩
  exact ⟨rfl, bTr hb hl⟩
theorem syncS_dom (c : CS) (m : Mg) (z : Nat) (x : Int) : (c.syncS m z x).dom = c.dom := by
  unfold CS.syncS
  split <;> rfl
theorem folS_dom (c : CS) (m : Mg) (z : Nat) (x y : Int) : (c.folS m z x y).dom = c.dom := by
  unfold CS.folS
  split
  · split <;> rfl
  · rfl
theorem PP.Ok.inS (hs : s.Ok) (m : Mg) {x : Int} (hx : In64 x) : (s.inS m x).Ok := by
  unfold PP.inS
  split
  · exact ⟨hs.a.syncS m _ hx, hs.b, (syncS_dom _ _ _ _).trans hs.da, hs.db, hs.most, hs.last⟩
  split
  · exact ⟨hs.a, hs.b.syncS m _ hx, hs.da, (syncS_dom _ _ _ _).trans hs.db, hs.most, hs.last⟩
  · exact hs
theorem PP.Ok.folS (hs : s.Ok) (m : Mg) (x y : Int) : (s.folS m x y).Ok := by
  unfold PP.folS
  split
  · exact ⟨hs.a.folS m _ x y, hs.b, (folS_dom _ _ _ _ _).trans hs.da, hs.db, hs.most, hs.last⟩
  split
  · exact ⟨hs.a, hs.b.folS m _ x y, hs.da, (folS_dom _ _ _ _ _).trans hs.db, hs.most, hs.last⟩
  · exact hs
end

end Go.Proofs.Ytfeoppbincldfaa
