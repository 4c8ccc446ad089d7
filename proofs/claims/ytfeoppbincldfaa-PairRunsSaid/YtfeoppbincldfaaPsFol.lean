/- Package sync: Sync, Follow. -/
import Derived.Test.YtfeoppbincldfaaPsOps
namespace Go.Proofs.Ytfeoppbincldfaa
open Go.RowKit Go.Joins

theorem cellO {w : World} {b i g j : Nat} {x v : Value} (h : w.cell? ⟨g, j, none⟩ = some v) (hn : g ≠ b) : (w.setCell ⟨b, i, none⟩ x).cell? ⟨g, j, none⟩ = some v := by
  rw [← h]
  unfold World.cell?
  rw [heap_setCell_other w ⟨b, i, none⟩ g x hn]
def CS.synced (s : CS) (seq src at_ : Int) : CS := { s with opn := true, seq := seq, src := src, came := at_ }
section
variable {w : World} {b : Nat} {s : CS}
theorem sync_own (h : Ck w b s) (ho : s.own = true) (m : Mg) (v : Value) (x : Int) : Calls Try.prog 28 #[.pointer (some ⟨b, 0, none⟩), .agg (MC m v), .int .i64 x] w fun e w' => e = .returned (.int .i64 31) ∧ Below w.heap.size w w' := by
  have HT := Lib.hid (takes_own (h.below (bAl (bRef w) (.cells (MC m v) 37))) ho m v 0)
  have hlt := h.lt
  clear h
  unfold MC
  go_enter Try.func28, Try.ntmps28
  go_wp2_with (first
    | ((with_reducible refine at_loadM ?_); refine wpList_loadM rfl _ rfl w.heap.size rfl (MC m v) _ (heap_alloc_new w _) rfl ?_)
    | (go_at_call 51; (refine HT.out.mono ?_); rintro e w1 ⟨rfl, hb⟩; have HB := Lib.hid (bTr (bAl (bRef w) _) hb); clear hb))
  go_ret
  exact ⟨rfl, HB.out⟩
set_option maxRecDepth 20000 in
set_option maxHeartbeats 2000000 in
theorem sync_ok (h : Ck w b s) (ho : s.own = false) (m : Mg) (v : Value) (x : Int) (hk : m.kind = 0) (hd : m.dom = s.dom) (hC : ChkTo w m v 0) : Calls Try.prog 28 #[.pointer (some ⟨b, 0, none⟩), .agg (MC m v), .int .i64 x] w fun e w' => e = .returned (.int .i64 0) ∧ LeaveC b w (s.synced m.seq m.src x) w' := by
  have hb0 := bAl (bRef w) (.cells (MC m v) 37)
  have HT := Lib.hid (takes_yes (h.below hb0) ho m v 0 hk hd (hC.mono hb0))
  have hr := heap_alloc_new w (.cells (MC m v) 37)
  have HR := Lib.hid hr
  have H := Lib.hid (h.below hb0)
  have HB0 := Lib.hid hb0
  have hlt := h.lt
  have hne : w.heap.size ≠ b := by omega
  clear h hC hb0 hr hk hd
  unfold MC
  go_enter Try.func28, Try.ntmps28
  go_wp2_with (first
    | ((with_reducible refine at_loadM ?_); refine wpList_loadM rfl _ rfl w.heap.size rfl (MC m v) _ (heap_alloc_new w _) rfl ?_)
    | (go_at_call 51; (refine HT.out.mono ?_); rintro e w1 ⟨rfl, hb⟩; have hB1 := bTr HB0.out hb; have hc1 := H.out.below hb; have hr1 := (hb.block _ (lt_of_heap HR.out)).trans HR.out; clear hb))
  have k6 := hc1.c6
  have k7 := hc1.c7
  have k8 := hc1.c8
  have k9 := hc1.c9
  have kf := hc1.fz
  have m2 : w1.cell? ⟨w.heap.size, 2, none⟩ = some (.int .i64 m.seq) := cell_of_row _ _ _ _ _ _ hr1
  have m3 : w1.cell? ⟨w.heap.size, 3, none⟩ = some (.int .i64 m.src) := cell_of_row _ _ _ _ _ _ hr1
  have s1 := hc1.drew.set 6 (.bool true) (s' := { s with opn := true }) rfl
  have s2 := s1.set 7 (.int .i64 m.seq) (s' := { s with opn := true, seq := m.seq }) rfl
  have s3 := s2.set 8 (.int .i64 m.src) (s' := { s with opn := true, seq := m.seq, src := m.src }) rfl
  have HF := Lib.hid (s3.set 9 (.int .i64 x) (s' := s.synced m.seq m.src x) rfl)
  have HG := Lib.hid (set_but (set_but (set_but (set_but (ButB.of_below (b := b) hB1).drew 6 (.bool true)) 7 (.int .i64 m.seq)) 8 (.int .i64 m.src)) 9 (.int .i64 x))
  clear s1 s2 s3 hc1 hB1 hr1
  have h0 : (fun V => V.cell? ⟨w.heap.size, 2, none⟩ = some (.int .i64 m.seq) ∧ V.cell? ⟨w.heap.size, 3, none⟩ = some (.int .i64 m.src)) w1.drew := ⟨m2, m3⟩
  refine wp_region_held_drew (S := fun V => V.cell? ⟨w.heap.size, 2, none⟩ = some (.int .i64 m.seq) ∧ V.cell? ⟨w.heap.size, 3, none⟩ = some (.int .i64 m.src)) (by kernel_rfl) h0 (fun h0 => ?_)
  refine hTakeS (i := 0) (k := 11) (v := .pointer (some ⟨b, 0, none⟩)) rfl rfl (by kernel_rfl) (by kernel_rfl) (by kernel_rfl) (fun _ _ _ h => h) (yieldsIf_val (by rfl) (by intro W; go_simp)) h0 ?_
  simp only [List.setIfInBounds_toArray, List.set_cons_zero, List.set_cons_succ]
  refine hTakeS (i := 1) (k := 12) (v := .pointer (some ⟨b, 0, none⟩)) rfl rfl (by kernel_rfl) (by kernel_rfl) (by kernel_rfl) (fun _ _ _ h => h) (yieldsIf_val (by rfl) (by intro W; go_simp)) h0 ?_
  simp only [List.setIfInBounds_toArray, List.set_cons_zero, List.set_cons_succ]
  refine hTakeS (i := 2) (k := 13) (v := .pointer (some ⟨b, 0, none⟩)) rfl rfl (by kernel_rfl) (by kernel_rfl) (by kernel_rfl) (fun _ _ _ h => h) (yieldsIf_val (by rfl) (by intro W; go_simp)) h0 ?_
  simp only [List.setIfInBounds_toArray, List.set_cons_zero, List.set_cons_succ]
  refine hTakeS (i := 3) (k := 14) (v := .pointer (some ⟨b, 0, none⟩)) rfl rfl (by kernel_rfl) (by kernel_rfl) (by kernel_rfl) (fun _ _ _ h => h) (yieldsIf_val (by rfl) (by intro W; go_simp)) h0 ?_
  simp only [List.setIfInBounds_toArray, List.set_cons_zero, List.set_cons_succ]
  refine hTakeS (i := 4) (k := 15) (v := .pointer (some ⟨w.heap.size, 2, none⟩)) rfl rfl (by kernel_rfl) (by kernel_rfl) (by kernel_rfl) (fun _ _ _ h => h) (yieldsIf_val (by rfl) (by intro W; go_simp)) h0 ?_
  simp only [List.setIfInBounds_toArray, List.set_cons_zero, List.set_cons_succ]
  refine hTakeS (i := 5) (k := 16) (v := .int .i64 m.seq) rfl rfl (by kernel_rfl) (by kernel_rfl) (by kernel_rfl) (fun _ _ _ h => h) (.inl ⟨by rfl, fun W hW => by obtain ⟨b1, b0⟩ := hW; go_simp⟩) h0 ?_
  simp only [List.setIfInBounds_toArray, List.set_cons_zero, List.set_cons_succ]
  refine hTakeS (i := 6) (k := 17) (v := .pointer (some ⟨w.heap.size, 3, none⟩)) rfl rfl (by kernel_rfl) (by kernel_rfl) (by kernel_rfl) (fun _ _ _ h => h) (yieldsIf_val (by rfl) (by intro W; go_simp)) h0 ?_
  simp only [List.setIfInBounds_toArray, List.set_cons_zero, List.set_cons_succ]
  refine hTakeS (i := 7) (k := 18) (v := .int .i64 m.src) rfl rfl (by kernel_rfl) (by kernel_rfl) (by kernel_rfl) (fun _ _ _ h => h) (.inl ⟨by rfl, fun W hW => by obtain ⟨b1, b0⟩ := hW; go_simp⟩) h0 ?_
  simp only [List.setIfInBounds_toArray, List.set_cons_zero, List.set_cons_succ]
  refine hTakeS (i := 8) (k := 19) (v := .int .i64 x) rfl rfl (by kernel_rfl) (by kernel_rfl) (by kernel_rfl) (fun _ _ _ h => h) (yieldsIf_val (by rfl) (by intro W; go_simp)) h0 ?_
  simp only [List.setIfInBounds_toArray, List.set_cons_zero, List.set_cons_succ]
  refine hTakeS (i := 9) (k := 20) (v := .pointer (some ⟨b, 0, none⟩)) rfl rfl (by kernel_rfl) (by kernel_rfl) (by kernel_rfl) (fun _ _ _ h => h) (yieldsIf_val (by rfl) (by intro W; go_simp)) h0 ?_
  simp only [List.setIfInBounds_toArray, List.set_cons_zero, List.set_cons_succ]
  refine hTakeS (i := 10) (k := 21) (v := .pointer (some ⟨b, 6, none⟩)) rfl rfl (by kernel_rfl) (by kernel_rfl) (by kernel_rfl) (fun _ _ _ h => h) (yieldsIf_val (by rfl) (by intro W; go_simp)) h0 ?_
  simp only [List.setIfInBounds_toArray, List.set_cons_zero, List.set_cons_succ]
  have h11x : (fun V => V.cell? ⟨w.heap.size, 2, none⟩ = some (.int .i64 m.seq) ∧ V.cell? ⟨w.heap.size, 3, none⟩ = some (.int .i64 m.src)) (w1.drew.setCell ⟨b, 6, none⟩ (.bool true)) := ⟨cellO h0.1 hne, cellO h0.2 hne⟩
  refine hOneNS (i := 11) (w' := (w1.drew.setCell ⟨b, 6, none⟩ (.bool true))) (by kernel_rfl) rfl rfl (by rfl) (by go_simp) h11x ?_
  refine hTakeS (i := 12) (k := 22) (v := .pointer (some ⟨b, 0, none⟩)) rfl rfl (by kernel_rfl) (by kernel_rfl) (by kernel_rfl) (fun _ _ _ h => h) (yieldsIf_val (by rfl) (by intro W; go_simp)) h11x ?_
  simp only [List.setIfInBounds_toArray, List.set_cons_zero, List.set_cons_succ]
  refine hTakeS (i := 13) (k := 23) (v := .pointer (some ⟨b, 7, none⟩)) rfl rfl (by kernel_rfl) (by kernel_rfl) (by kernel_rfl) (fun _ _ _ h => h) (yieldsIf_val (by rfl) (by intro W; go_simp)) h11x ?_
  simp only [List.setIfInBounds_toArray, List.set_cons_zero, List.set_cons_succ]
  have h14x : (fun V => V.cell? ⟨w.heap.size, 2, none⟩ = some (.int .i64 m.seq) ∧ V.cell? ⟨w.heap.size, 3, none⟩ = some (.int .i64 m.src)) ((w1.drew.setCell ⟨b, 6, none⟩ (.bool true)).setCell ⟨b, 7, none⟩ (.int .i64 m.seq)) := ⟨cellO h11x.1 hne, cellO h11x.2 hne⟩
  refine hOneNS (i := 14) (w' := ((w1.drew.setCell ⟨b, 6, none⟩ (.bool true)).setCell ⟨b, 7, none⟩ (.int .i64 m.seq))) (by kernel_rfl) rfl rfl (by rfl) (by go_simp) h14x ?_
  refine hTakeS (i := 15) (k := 24) (v := .pointer (some ⟨b, 0, none⟩)) rfl rfl (by kernel_rfl) (by kernel_rfl) (by kernel_rfl) (fun _ _ _ h => h) (yieldsIf_val (by rfl) (by intro W; go_simp)) h14x ?_
  simp only [List.setIfInBounds_toArray, List.set_cons_zero, List.set_cons_succ]
  refine hTakeS (i := 16) (k := 25) (v := .pointer (some ⟨b, 8, none⟩)) rfl rfl (by kernel_rfl) (by kernel_rfl) (by kernel_rfl) (fun _ _ _ h => h) (yieldsIf_val (by rfl) (by intro W; go_simp)) h14x ?_
  simp only [List.setIfInBounds_toArray, List.set_cons_zero, List.set_cons_succ]
  have h17x : (fun V => V.cell? ⟨w.heap.size, 2, none⟩ = some (.int .i64 m.seq) ∧ V.cell? ⟨w.heap.size, 3, none⟩ = some (.int .i64 m.src)) (((w1.drew.setCell ⟨b, 6, none⟩ (.bool true)).setCell ⟨b, 7, none⟩ (.int .i64 m.seq)).setCell ⟨b, 8, none⟩ (.int .i64 m.src)) := ⟨cellO h14x.1 hne, cellO h14x.2 hne⟩
  refine hOneNS (i := 17) (w' := (((w1.drew.setCell ⟨b, 6, none⟩ (.bool true)).setCell ⟨b, 7, none⟩ (.int .i64 m.seq)).setCell ⟨b, 8, none⟩ (.int .i64 m.src))) (by kernel_rfl) rfl rfl (by rfl) (by go_simp) h17x ?_
  refine hTakeS (i := 18) (k := 26) (v := .pointer (some ⟨b, 0, none⟩)) rfl rfl (by kernel_rfl) (by kernel_rfl) (by kernel_rfl) (fun _ _ _ h => h) (yieldsIf_val (by rfl) (by intro W; go_simp)) h17x ?_
  simp only [List.setIfInBounds_toArray, List.set_cons_zero, List.set_cons_succ]
  refine hTakeS (i := 19) (k := 27) (v := .pointer (some ⟨b, 9, none⟩)) rfl rfl (by kernel_rfl) (by kernel_rfl) (by kernel_rfl) (fun _ _ _ h => h) (yieldsIf_val (by rfl) (by intro W; go_simp)) h17x ?_
  simp only [List.setIfInBounds_toArray, List.set_cons_zero, List.set_cons_succ]
  have h20x : (fun V => V.cell? ⟨w.heap.size, 2, none⟩ = some (.int .i64 m.seq) ∧ V.cell? ⟨w.heap.size, 3, none⟩ = some (.int .i64 m.src)) ((((w1.drew.setCell ⟨b, 6, none⟩ (.bool true)).setCell ⟨b, 7, none⟩ (.int .i64 m.seq)).setCell ⟨b, 8, none⟩ (.int .i64 m.src)).setCell ⟨b, 9, none⟩ (.int .i64 x)) := ⟨cellO h17x.1 hne, cellO h17x.2 hne⟩
  refine hOneNS (i := 20) (w' := ((((w1.drew.setCell ⟨b, 6, none⟩ (.bool true)).setCell ⟨b, 7, none⟩ (.int .i64 m.seq)).setCell ⟨b, 8, none⟩ (.int .i64 m.src)).setCell ⟨b, 9, none⟩ (.int .i64 x))) (by kernel_rfl) rfl rfl (by rfl) (by go_simp) h20x ?_
  refine wpAnyH_done (by kernel_rfl) ?_ _
  go_wp2_with fail
  go_ret
  exact ⟨rfl, HF.out, HG.out⟩
/-- What a Follow tells, if all fits: the rate, how long the way was, the time. -/
structure FolOk (m : Mg) (delay ratio r d t : Int) : Prop where
  im : In64 m.rate
  io : In64 ratio
  eM : rE m.rate ratio 2199023255552 = 0
  vM : rV m.rate ratio 2199023255552 = r
  right : Right r
  arr : Arr m.corr m.time delay r d t
def CS.told (s : CS) (t r : Int) : CS := { s with opn := false, known := true, here := s.came, there := t, rate := r }
set_option maxRecDepth 20000 in
set_option maxHeartbeats 4000000 in
theorem follow_ok (h : Ck w b s) (ho : s.own = false) (hop : s.opn = true) {dom seq src port corr time rate : Int} {m : Mg} (hm : m = FolM dom seq src port corr time rate) {v : Value} (hv : v = .slice none 0 0) {delay ratio r d t : Int} (hd : m.dom = s.dom) (hq : m.seq = s.seq) (hs : m.src = s.src) (hC : ChkTo w m v 0) (hf : FolOk m delay ratio r d t) : Calls Try.prog 29 #[.pointer (some ⟨b, 0, none⟩), .agg (MC m v), .int .i64 delay, .int .i64 ratio] w fun e w' => e = .returned (.int .i64 0) ∧ LeaveC b w (s.told t r) w' := by
  have hb0 := bAl (bRef w) (.cells (MC m v) 37)
  have HT := Lib.hid (takes_yes (h.below hb0) ho m v 8 (by rw [hm]; rfl) hd (hC.mono hb0))
  have HT2 := Lib.hid (takes_yes (h.below (bDr1 hb0)) ho m v 8 (by rw [hm]; rfl) hd (hC.mono (bDr1 hb0)))
  have hr := heap_alloc_new w (.cells (MC m v) 37)
  have HR := Lib.hid hr
  have H := Lib.hid (h.below hb0)
  have HB0 := Lib.hid hb0
  have hlt := h.lt
  have hne : w.heap.size ≠ b := by omega
  have H1 := rMul_ret hf.im hf.io
  rw [hf.eM, hf.vM] at H1
  replace H1 := Lib.hid H1
  have H2 := rCheck_ret r
  rw [if_pos hf.right] at H2
  replace H2 := Lib.hid H2
  have H3 : Hid (∀ W, Calls Try.prog 54 #[.agg (MC m v), .int .i64 delay, .int .i64 r] W fun e w' => e = .returned (.tuple #[.int .i64 t, .int .i64 0]) ∧ Below W.heap.size W w') := Lib.hid (fun W => by
    have ha := hf.arr
    subst hm hv
    exact arrival_ok ha W)
  have k6 := (h.below hb0).c6
  have k7 := (h.below hb0).c7
  have k8 := (h.below hb0).c8
  rw [hop] at k6
  rw [← hq] at k7
  rw [← hs] at k8
  have HS : Hid ((fun V => V.cell? ⟨b, 6, none⟩ = some (.bool true) ∧ V.cell? ⟨b, 7, none⟩ = some (.int .i64 m.seq) ∧ V.cell? ⟨b, 8, none⟩ = some (.int .i64 m.src) ∧ V.heap[w.heap.size]? = some (.cells (MC m v) 37 (0, 0))) (w.alloc (.cells (MC m v) 37)).drew) := Lib.hid ⟨k6, k7, k8, hr⟩
  have n1 : (m.seq != m.seq) = false := by simp
  have n2 : (m.src != m.src) = false := by simp
  clear h hC hb0 hr hd hf hq hs hm hv k6 k7 k8 hop
  unfold MC
  go_enter Try.func29, Try.ntmps29
  go_wp2_with fail
  refine wp_region_held_drew (S := fun V => V.cell? ⟨b, 6, none⟩ = some (.bool true) ∧ V.cell? ⟨b, 7, none⟩ = some (.int .i64 m.seq) ∧ V.cell? ⟨b, 8, none⟩ = some (.int .i64 m.src) ∧ V.heap[w.heap.size]? = some (.cells (MC m v) 37 (0, 0))) (by kernel_rfl) HS.out (fun h0 => ?_)
  refine hTakeS (i := 0) (k := 13) (v := .pointer (some ⟨b, 0, none⟩)) rfl rfl (by kernel_rfl) (by kernel_rfl) (by kernel_rfl) (fun _ _ _ h => h) (yieldsIf_val (by rfl) (by intro W; go_simp)) h0 ?_
  simp only [List.setIfInBounds_toArray, List.set_cons_zero, List.set_cons_succ]
  refine hTakeS (i := 1) (k := 14) (v := .agg (MC m v)) rfl rfl (by kernel_rfl) (by kernel_rfl) (by kernel_rfl) (fun _ _ _ h => h) (.inl ⟨by rfl, fun W hW => load_opM _ rfl w.heap.size rfl (MC m v) _ W hW.2.2.2 rfl⟩) h0 ?_
  simp only [List.setIfInBounds_toArray, List.set_cons_zero, List.set_cons_succ]
  refine hCallR (i := 2) (k := 15) (by kernel_rfl) rfl rfl (by rfl) 51 #[.pointer (some ⟨b, 0, none⟩), .agg (MC m v), .int .i64 8] (by go_simp) (HT2.out) ?_
  rintro e w1 ⟨rfl, hb⟩
  have hB1 := bTr (bDr1 HB0.out) hb
  have hc1 := H.out.drew.below hb
  have h1 : (fun V => V.cell? ⟨b, 6, none⟩ = some (.bool true) ∧ V.cell? ⟨b, 7, none⟩ = some (.int .i64 m.seq) ∧ V.cell? ⟨b, 8, none⟩ = some (.int .i64 m.src) ∧ V.heap[w.heap.size]? = some (.cells (MC m v) 37 (0, 0))) w1 := ⟨(hb.cell (block_lt_cell h0.1)).trans h0.1, (hb.cell (block_lt_cell h0.2.1)).trans h0.2.1, (hb.cell (block_lt_cell h0.2.2.1)).trans h0.2.2.1, (hb.block _ (lt_of_heap h0.2.2.2)).trans h0.2.2.2⟩
  clear hb
  refine ⟨_, rfl, h1, ?_⟩
  simp only [List.setIfInBounds_toArray, List.set_cons_zero, List.set_cons_succ]
  refine hTakeS (i := 3) (k := 16) (v := .bool false) rfl rfl (by kernel_rfl) (by kernel_rfl) (by kernel_rfl) (fun _ _ _ h => h) (yieldsIf_val (by rfl) (by intro W; go_simp)) h1 ?_
  simp only [List.setIfInBounds_toArray, List.set_cons_zero, List.set_cons_succ]
  refine hTakeS (i := 4) (k := 17) (v := .bool false) rfl rfl (by kernel_rfl) (by kernel_rfl) (by kernel_rfl) (fun _ _ _ h => h) (yieldsIf_val (by rfl) (by intro W; go_simp)) h1 ?_
  simp only [List.setIfInBounds_toArray, List.set_cons_zero, List.set_cons_succ]
  refine hTakeS (i := 5) (k := 18) (v := .pointer (some ⟨b, 0, none⟩)) rfl rfl (by kernel_rfl) (by kernel_rfl) (by kernel_rfl) (fun _ _ _ h => h) (yieldsIf_val (by rfl) (by intro W; go_simp)) h1 ?_
  simp only [List.setIfInBounds_toArray, List.set_cons_zero, List.set_cons_succ]
  refine hTakeS (i := 6) (k := 19) (v := .pointer (some ⟨b, 0, none⟩)) rfl rfl (by kernel_rfl) (by kernel_rfl) (by kernel_rfl) (fun _ _ _ h => h) (yieldsIf_val (by rfl) (by intro W; go_simp)) h1 ?_
  simp only [List.setIfInBounds_toArray, List.set_cons_zero, List.set_cons_succ]
  refine hTakeS (i := 7) (k := 20) (v := .pointer (some ⟨b, 6, none⟩)) rfl rfl (by kernel_rfl) (by kernel_rfl) (by kernel_rfl) (fun _ _ _ h => h) (yieldsIf_val (by rfl) (by intro W; go_simp)) h1 ?_
  simp only [List.setIfInBounds_toArray, List.set_cons_zero, List.set_cons_succ]
  refine hTakeS (i := 8) (k := 21) (v := .bool true) rfl rfl (by kernel_rfl) (by kernel_rfl) (by kernel_rfl) (fun _ _ _ h => h) (.inl ⟨by rfl, fun W hW => by obtain ⟨b6, b7, b8, br⟩ := hW; go_simp⟩) h1 ?_
  simp only [List.setIfInBounds_toArray, List.set_cons_zero, List.set_cons_succ]
  refine hTakeS (i := 9) (k := 22) (v := .bool false) rfl rfl (by kernel_rfl) (by kernel_rfl) (by kernel_rfl) (fun _ _ _ h => h) (yieldsIf_val (by rfl) (by intro W; go_simp)) h1 ?_
  simp only [List.setIfInBounds_toArray, List.set_cons_zero, List.set_cons_succ]
  refine hTakeS (i := 10) (k := 23) (v := .bool false) rfl rfl (by kernel_rfl) (by kernel_rfl) (by kernel_rfl) (fun _ _ _ h => h) (yieldsIf_val (by rfl) (by intro W; go_simp)) h1 ?_
  simp only [List.setIfInBounds_toArray, List.set_cons_zero, List.set_cons_succ]
  refine hTakeS (i := 11) (k := 24) (v := .bool false) rfl rfl (by kernel_rfl) (by kernel_rfl) (by kernel_rfl) (fun _ _ _ h => h) (yieldsIf_val (by rfl) (by intro W; go_simp)) h1 ?_
  simp only [List.setIfInBounds_toArray, List.set_cons_zero, List.set_cons_succ]
  refine hTakeS (i := 12) (k := 25) (v := .pointer (some ⟨w.heap.size, 2, none⟩)) rfl rfl (by kernel_rfl) (by kernel_rfl) (by kernel_rfl) (fun _ _ _ h => h) (yieldsIf_val (by rfl) (by intro W; go_simp)) h1 ?_
  simp only [List.setIfInBounds_toArray, List.set_cons_zero, List.set_cons_succ]
  refine hTakeS (i := 13) (k := 26) (v := .int .i64 m.seq) rfl rfl (by kernel_rfl) (by kernel_rfl) (by kernel_rfl) (fun _ _ _ h => h) (.inl ⟨by rfl, fun W hW => by obtain ⟨b6, b7, b8, br⟩ := hW; have q2 := cell_of_row W w.heap.size 2 _ _ _ br; have q3 := cell_of_row W w.heap.size 3 _ _ _ br; simp only [MC, List.getElem?_toArray, List.getElem?_cons_zero, List.getElem?_cons_succ] at q2 q3; go_simp⟩) h1 ?_
  simp only [List.setIfInBounds_toArray, List.set_cons_zero, List.set_cons_succ]
  refine hTakeS (i := 14) (k := 27) (v := .pointer (some ⟨b, 0, none⟩)) rfl rfl (by kernel_rfl) (by kernel_rfl) (by kernel_rfl) (fun _ _ _ h => h) (yieldsIf_val (by rfl) (by intro W; go_simp)) h1 ?_
  simp only [List.setIfInBounds_toArray, List.set_cons_zero, List.set_cons_succ]
  refine hTakeS (i := 15) (k := 28) (v := .pointer (some ⟨b, 0, none⟩)) rfl rfl (by kernel_rfl) (by kernel_rfl) (by kernel_rfl) (fun _ _ _ h => h) (yieldsIf_val (by rfl) (by intro W; go_simp)) h1 ?_
  simp only [List.setIfInBounds_toArray, List.set_cons_zero, List.set_cons_succ]
  refine hTakeS (i := 16) (k := 29) (v := .pointer (some ⟨b, 7, none⟩)) rfl rfl (by kernel_rfl) (by kernel_rfl) (by kernel_rfl) (fun _ _ _ h => h) (yieldsIf_val (by rfl) (by intro W; go_simp)) h1 ?_
  simp only [List.setIfInBounds_toArray, List.set_cons_zero, List.set_cons_succ]
  refine hTakeS (i := 17) (k := 30) (v := .int .i64 m.seq) rfl rfl (by kernel_rfl) (by kernel_rfl) (by kernel_rfl) (fun _ _ _ h => h) (.inl ⟨by rfl, fun W hW => by obtain ⟨b6, b7, b8, br⟩ := hW; go_simp⟩) h1 ?_
  simp only [List.setIfInBounds_toArray, List.set_cons_zero, List.set_cons_succ]
  refine hTakeS (i := 18) (k := 31) (v := .bool false) rfl rfl (by kernel_rfl) (by kernel_rfl) (by kernel_rfl) (fun _ _ _ h => h) (yieldsIf_val (by rfl) (by intro W; go_simp)) h1 ?_
  simp only [List.setIfInBounds_toArray, List.set_cons_zero, List.set_cons_succ]
  refine hTakeS (i := 19) (k := 32) (v := .bool false) rfl rfl (by kernel_rfl) (by kernel_rfl) (by kernel_rfl) (fun _ _ _ h => h) (yieldsIf_val (by rfl) (by intro W; go_simp)) h1 ?_
  simp only [List.setIfInBounds_toArray, List.set_cons_zero, List.set_cons_succ]
  refine hTakeS (i := 20) (k := 33) (v := .bool false) rfl rfl (by kernel_rfl) (by kernel_rfl) (by kernel_rfl) (fun _ _ _ h => h) (yieldsIf_val (by rfl) (by intro W; go_simp)) h1 ?_
  simp only [List.setIfInBounds_toArray, List.set_cons_zero, List.set_cons_succ]
  refine hTakeS (i := 21) (k := 34) (v := .pointer (some ⟨w.heap.size, 3, none⟩)) rfl rfl (by kernel_rfl) (by kernel_rfl) (by kernel_rfl) (fun _ _ _ h => h) (yieldsIf_val (by rfl) (by intro W; go_simp)) h1 ?_
  simp only [List.setIfInBounds_toArray, List.set_cons_zero, List.set_cons_succ]
  refine hTakeS (i := 22) (k := 35) (v := .int .i64 m.src) rfl rfl (by kernel_rfl) (by kernel_rfl) (by kernel_rfl) (fun _ _ _ h => h) (.inl ⟨by rfl, fun W hW => by obtain ⟨b6, b7, b8, br⟩ := hW; have q2 := cell_of_row W w.heap.size 2 _ _ _ br; have q3 := cell_of_row W w.heap.size 3 _ _ _ br; simp only [MC, List.getElem?_toArray, List.getElem?_cons_zero, List.getElem?_cons_succ] at q2 q3; go_simp⟩) h1 ?_
  simp only [List.setIfInBounds_toArray, List.set_cons_zero, List.set_cons_succ]
  refine hTakeS (i := 23) (k := 36) (v := .pointer (some ⟨b, 0, none⟩)) rfl rfl (by kernel_rfl) (by kernel_rfl) (by kernel_rfl) (fun _ _ _ h => h) (yieldsIf_val (by rfl) (by intro W; go_simp)) h1 ?_
  simp only [List.setIfInBounds_toArray, List.set_cons_zero, List.set_cons_succ]
  refine hTakeS (i := 24) (k := 37) (v := .pointer (some ⟨b, 0, none⟩)) rfl rfl (by kernel_rfl) (by kernel_rfl) (by kernel_rfl) (fun _ _ _ h => h) (yieldsIf_val (by rfl) (by intro W; go_simp)) h1 ?_
  simp only [List.setIfInBounds_toArray, List.set_cons_zero, List.set_cons_succ]
  refine hTakeS (i := 25) (k := 38) (v := .pointer (some ⟨b, 8, none⟩)) rfl rfl (by kernel_rfl) (by kernel_rfl) (by kernel_rfl) (fun _ _ _ h => h) (yieldsIf_val (by rfl) (by intro W; go_simp)) h1 ?_
  simp only [List.setIfInBounds_toArray, List.set_cons_zero, List.set_cons_succ]
  refine hTakeS (i := 26) (k := 39) (v := .int .i64 m.src) rfl rfl (by kernel_rfl) (by kernel_rfl) (by kernel_rfl) (fun _ _ _ h => h) (.inl ⟨by rfl, fun W hW => by obtain ⟨b6, b7, b8, br⟩ := hW; go_simp⟩) h1 ?_
  simp only [List.setIfInBounds_toArray, List.set_cons_zero, List.set_cons_succ]
  refine hTakeS (i := 27) (k := 40) (v := .bool false) rfl rfl (by kernel_rfl) (by kernel_rfl) (by kernel_rfl) (fun _ _ _ h => h) (yieldsIf_val (by rfl) (by intro W; go_simp)) h1 ?_
  simp only [List.setIfInBounds_toArray, List.set_cons_zero, List.set_cons_succ]
  refine hTakeS (i := 28) (k := 41) (v := .bool false) rfl rfl (by kernel_rfl) (by kernel_rfl) (by kernel_rfl) (fun _ _ _ h => h) (yieldsIf_val (by rfl) (by intro W; go_simp)) h1 ?_
  simp only [List.setIfInBounds_toArray, List.set_cons_zero, List.set_cons_succ]
  refine wpAnyH_done (by kernel_rfl) ?_ _
  obtain ⟨k6, k7, k8, hr1⟩ := h1
  have kf := hc1.fz
  have m9 : w1.cell? ⟨w.heap.size, 9, none⟩ = some (.int .i64 m.rate) := cell_of_row _ _ _ _ _ _ hr1
  have s1 := hc1.set 6 (.bool false) (s' := { s with opn := false }) rfl
  have HR1 := Lib.hid (show (w1.setCell ⟨b, 6, none⟩ (.bool false)).heap[w.heap.size]? = some (.cells (MC m v) 37 (0, 0)) from (heap_setCell_other w1 ⟨b, 6, none⟩ w.heap.size _ hne).trans hr1)
  have HG1 := Lib.hid (set_but (ButB.of_below (b := b) hB1) 6 (.bool false))
  have S1 := Lib.hid s1
  clear hc1 hB1 hr1 s1 k7 k8
  go_wp2_with (first
    | (go_at_call 52; (with_reducible refine (H1.out.go _).mono ?_); rintro e w2 ⟨rfl, hb⟩; have S2 := Lib.hid (S1.out.below hb); have HG2 := Lib.hid (HG1.out.trans (ButB.of_below (b := b) hb)); have HR2 := Lib.hid ((hb.block _ (lt_of_heap HR1.out)).trans HR1.out); clear hb)
    | (go_at_call 53; (with_reducible refine (H2.out.go _).mono ?_); rintro e w3 ⟨rfl, hb⟩; have S3 := Lib.hid (S2.out.below hb); have HG3 := Lib.hid (HG2.out.trans (ButB.of_below (b := b) hb)); have HR3 := Lib.hid ((hb.block _ (lt_of_heap HR2.out)).trans HR2.out); clear hb)
    | ((with_reducible refine at_loadM ?_); refine wpList_loadM rfl _ rfl w.heap.size rfl (MC m v) _ HR3.out rfl ?_)
    | (go_at_call 54; (with_reducible refine (H3.out _).mono ?_); rintro e w4 ⟨rfl, hb⟩; have S4 := Lib.hid (S3.out.below hb); have HG4 := Lib.hid (HG3.out.trans (ButB.of_below (b := b) hb)); have j9 := S4.out.c9; clear hb)
    | (go_at_call 50; (with_reducible refine (know_any S4.out _ _ _).mono ?_); rintro e w5 ⟨rfl, hc, hb⟩; have HF := Lib.hid hc; have HG5 := Lib.hid (HG4.out.trans hb); clear hc hb))
  go_ret
  exact ⟨rfl, HF.out, HG5.out⟩
end

end Go.Proofs.Ytfeoppbincldfaa
