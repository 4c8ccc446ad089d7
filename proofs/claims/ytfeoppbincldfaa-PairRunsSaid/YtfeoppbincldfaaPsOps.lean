/- Package sync: New, Rate, know, At, Fresh; takes, arrival. -/
import Derived.Test.YtfeoppbincldfaaPsMem
namespace Go.Proofs.Ytfeoppbincldfaa
open Go.RowKit Go.Joins

def CS.new (dom : Int) : CS := ⟨dom, false, false, 0, 0, 2199023255552, false, 0, 0, 0⟩
def CS.now (s : CS) : Int := if s.own = true then 2199023255552 else s.rate
def CS.knows (s : CS) (here there r : Int) : CS := { s with known := true, here := here, there := there, rate := r }
theorem Try.builtClk (dom : Int) : Try.prog.built 124 [(0, .int .i64 dom), (5, .int .i64 2199023255552)] = some (crow (CS.new dom)) := by kernel_rfl
theorem at_buildC {ops : Array Oper} {rest : List Oper} {d : Option Tmp} {t : TypeId} {st : String} {af : Array Edge} {a : Act} {w : World} {x : Array (Nat × Operand)} {Q : Exit → Act → World → Prop}
    (h : wpList Try.prog ops Q (⟨d, .build 124 x, t, st, af, none⟩ :: rest) a w) : wpList Try.prog ops Q (⟨d, .build 124 x, t, st, af, none⟩ :: rest) a w := h
theorem newc_any (dom : Int) (w : World) : Calls Try.prog 22 #[.int .i64 dom] w fun e w' => ∃ b, e = .returned (.pointer (some ⟨b, 0, none⟩)) ∧ w.heap.size ≤ b ∧ Ck w' b (CS.new dom) ∧ Below w.heap.size w w' := by
  go_enter Try.func22, Try.ntmps22
  go_wp2_with (first
    | ((with_reducible refine at_buildC ?_); refine wpList_buildG rfl _ _ rfl (crow (CS.new dom)) (by simp only [List.map_toArray, List.map_cons, List.map_nil]; exact Try.builtClk dom) ?_))
  go_ret
  exact ⟨w.heap.size, rfl, Nat.le_refl _, heap_alloc_new w _, bAl (bRef w) _⟩
section
variable {w : World} {b : Nat} {s : CS}
theorem ratec_any (h : Ck w b s) : Calls Try.prog 48 #[.pointer (some ⟨b, 0, none⟩)] w fun e w' => e = .returned (.int .i64 s.now) ∧ w' = w := by
  have c1 := h.c1
  have c5 := h.c5
  unfold CS.now
  cases ho : s.own
  all_goals
    rw [ho] at c1
    go_enter Try.func48, Try.ntmps48
    go_wp2_with fail
    go_ret
    exact ⟨rfl, rfl⟩
theorem know_any (h : Ck w b s) (x y r : Int) : Calls Try.prog 50 #[.pointer (some ⟨b, 0, none⟩), .int .i64 x, .int .i64 y, .int .i64 r] w fun e w' => e = .returned (.tuple #[]) ∧ LeaveC b w (s.knows x y r) w' := by
  have c2 := h.c2
  have c3 := h.c3
  have c4 := h.c4
  have c5 := h.c5
  have fz := h.fz
  have h1 := h.set 2 (.bool true) (s' := { s with known := true }) rfl
  have h2 := h1.set 3 (.int .i64 x) (s' := { s with known := true, here := x }) rfl
  have h3 := h2.set 4 (.int .i64 y) (s' := { s with known := true, here := x, there := y }) rfl
  have HF := Lib.hid (h3.set 5 (.int .i64 r) (s' := s.knows x y r) rfl)
  have HG := Lib.hid (set_but (set_but (set_but (set_but (ButB.refl b w) 2 (.bool true)) 3 (.int .i64 x)) 4 (.int .i64 y)) 5 (.int .i64 r))
  clear h h1 h2 h3
  go_enter Try.func50, Try.ntmps50
  go_wp2_with fail
  go_end0
  exact ⟨rfl, HF.out, HG.out⟩
theorem at_none (h : Ck w b s) (hk : s.known = false) (ho : s.own = false) (x : Int) : Calls Try.prog 25 #[.pointer (some ⟨b, 0, none⟩), .int .i64 x] w fun e w' => e = .returned (.tuple #[.int .i64 0, .bool false]) ∧ Below w.heap.size w w' := by
  have c1 := h.c1
  have c2 := h.c2
  rw [ho] at c1
  rw [hk] at c2
  clear h
  go_enter Try.func25, Try.ntmps25
  go_wp2_with fail
  go_ret2
  exact ⟨rfl, bRef w⟩
theorem at_own (h : Ck w b s) (hk : s.known = false) (ho : s.own = true) (x : Int) : Calls Try.prog 25 #[.pointer (some ⟨b, 0, none⟩), .int .i64 x] w fun e w' => e = .returned (.tuple #[.int .i64 x, .bool true]) ∧ Below w.heap.size w w' := by
  have c1 := h.c1
  have c2 := h.c2
  rw [ho] at c1
  rw [hk] at c2
  clear h
  go_enter Try.func25, Try.ntmps25
  go_wp2_with fail
  go_ret2
  exact ⟨rfl, bRef w⟩
/-- What a clock tells, if all fits: g is how far the domain's time went, y what it is. -/
structure AtOk (s : CS) (x g y : Int) : Prop where
  hx : In64 x
  hh : In64 s.here
  i1 : In64 (x - s.here)
  ir : In64 s.now
  e : rE s.now (x - s.here) 2199023255552 = 0
  v : rV s.now (x - s.here) 2199023255552 = g
  ig : In64 g
  it : In64 s.there
  iy : In64 y
  y : s.there + g = y
theorem at_ok (h : Ck w b s) (hk : s.known = true) {x g y : Int} (ha : AtOk s x g y) : Calls Try.prog 25 #[.pointer (some ⟨b, 0, none⟩), .int .i64 x] w fun e w' => e = .returned (.tuple #[.int .i64 y, .bool true]) ∧ Below w.heap.size w w' := by
  have H1 := Lib.hid (fun W => subq ha.hx ha.hh ha.i1 W)
  have H2 := Lib.hid (ratec_any h)
  have H3 := by_ret ha.i1 ha.ir
  rw [ha.e, ha.v] at H3
  replace H3 := Lib.hid H3
  have H4 := sAdd_ret ha.it ha.ig
  rw [ha.y] at H4
  unfold Fit at H4
  rw [fitV_in ha.iy, fitE_in ha.iy] at H4
  replace H4 := Lib.hid H4
  have HC := Lib.hid h
  have c2 := h.c2
  have c3 := h.c3
  rw [hk] at c2
  have hlt := h.lt
  have c4 := h.c4
  clear ha h hk
  generalize x - s.here = d at *
  go_enter Try.func25, Try.ntmps25
  go_wp2_with (first
    | (go_at_call 46; (with_reducible refine (H1.out _).mono ?_); rintro e w1 ⟨rfl, rfl⟩)
    | (go_at_call 48; (with_reducible refine (H2.out).mono ?_); rintro e w1 ⟨rfl, rfl⟩)
    | (go_at_call 47; (with_reducible refine (H3.out.go _).mono ?_); rintro e w2 ⟨rfl, hb⟩; have HB := Lib.hid hb; have k4 := (hb.cell (p := ⟨b, 4, none⟩) hlt).trans c4; clear hb)
    | (go_at_call 49; (with_reducible refine (H4.out.go _).mono ?_); rintro e w3 ⟨rfl, hb⟩; have HB2 := Lib.hid (bTr HB.out hb); clear hb))
  go_ret2
  exact ⟨rfl, HB2.out⟩
theorem fresh_own (h : Ck w b s) (ho : s.own = true) (x y : Int) : Calls Try.prog 24 #[.pointer (some ⟨b, 0, none⟩), .int .i64 x, .int .i64 y] w fun e w' => e = .returned (.bool true) ∧ w' = w := by
  have c1 := h.c1
  rw [ho] at c1
  clear h
  go_enter Try.func24, Try.ntmps24
  go_wp2_with fail
  go_ret
  exact ⟨rfl, rfl⟩
theorem takes_own (h : Ck w b s) (ho : s.own = true) (m : Mg) (v : Value) (k : Int) : Calls Try.prog 51 #[.pointer (some ⟨b, 0, none⟩), .agg (MC m v), .int .i64 k] w fun e w' => e = .returned (.bool false) ∧ Below w.heap.size w w' := by
  have c1 := h.c1
  rw [ho] at c1
  have hlt := h.lt
  clear h
  unfold MC
  go_enter Try.func51, Try.ntmps51
  go_wp2_with fail
  go_quiet (fail)
  go_wp2_with fail
  go_ret
  exact ⟨rfl, bDr (bAl (bRef w) _) _⟩
set_option maxHeartbeats 2000000 in
theorem takes_yes (h : Ck w b s) (ho : s.own = false) (m : Mg) (v : Value) (k : Int) (hk : m.kind = k) (hd : m.dom = s.dom) (hC : ChkTo w m v 0) : Calls Try.prog 51 #[.pointer (some ⟨b, 0, none⟩), .agg (MC m v), .int .i64 k] w fun e w' => e = .returned (.bool true) ∧ Below w.heap.size w w' := by
  have hb0 := bAl (bRef w) (.cells (MC m v) 37)
  have h1 := (h.below hb0).c1
  have h0 := (h.below hb0).c0
  rw [ho] at h1
  have hr := heap_alloc_new w (.cells (MC m v) 37)
  have HS : Hid ((fun V => V.cell? ⟨b, 1, none⟩ = some (.bool false) ∧ V.cell? ⟨b, 0, none⟩ = some (.int .i64 s.dom) ∧ V.heap[w.heap.size]? = some (.cells (MC m v) 37 (0, 0))) ((w.alloc (.cells (MC m v) 37)).drew)) := Lib.hid ⟨h1, h0, hr⟩
  have HC := Lib.hid hC
  have HB0 := Lib.hid (bDr1 hb0)
  have d1 : (m.kind == k) = true := by rw [beq_iff_eq]; exact hk
  have d2 : (m.dom == s.dom) = true := by rw [beq_iff_eq]; exact hd
  clear h hC hb0 h0 h1 hr hk hd
  go_enter Try.func51, Try.ntmps51
  unfold MC
  go_wp2_with fail
  refine wp_region_held_drew (S := fun V => V.cell? ⟨b, 1, none⟩ = some (.bool false) ∧ V.cell? ⟨b, 0, none⟩ = some (.int .i64 s.dom) ∧ V.heap[w.heap.size]? = some (.cells (MC m v) 37 (0, 0))) (by kernel_rfl) HS.out (fun h0 => ?_)
  refine hTakeS (i := 0) (k := 7) (v := .pointer (some ⟨b, 0, none⟩)) rfl rfl (by kernel_rfl) (by kernel_rfl) (by kernel_rfl) (fun _ _ _ h => h) (yieldsIf_val (by rfl) (by intro W; go_simp)) h0 ?_
  simp only [List.setIfInBounds_toArray, List.set_cons_zero, List.set_cons_succ]
  refine hTakeS (i := 1) (k := 8) (v := .bool true) rfl rfl (by kernel_rfl) (by kernel_rfl) (by kernel_rfl) (fun _ _ _ h => h) (yieldsIf_val (by rfl) (by intro W; go_simp)) h0 ?_
  simp only [List.setIfInBounds_toArray, List.set_cons_zero, List.set_cons_succ]
  refine hTakeS (i := 2) (k := 9) (v := .bool true) rfl rfl (by kernel_rfl) (by kernel_rfl) (by kernel_rfl) (fun _ _ _ h => h) (yieldsIf_val (by rfl) (by intro W; go_simp)) h0 ?_
  simp only [List.setIfInBounds_toArray, List.set_cons_zero, List.set_cons_succ]
  refine hTakeS (i := 3) (k := 10) (v := .pointer (some ⟨b, 0, none⟩)) rfl rfl (by kernel_rfl) (by kernel_rfl) (by kernel_rfl) (fun _ _ _ h => h) (yieldsIf_val (by rfl) (by intro W; go_simp)) h0 ?_
  simp only [List.setIfInBounds_toArray, List.set_cons_zero, List.set_cons_succ]
  refine hTakeS (i := 4) (k := 11) (v := .pointer (some ⟨b, 0, none⟩)) rfl rfl (by kernel_rfl) (by kernel_rfl) (by kernel_rfl) (fun _ _ _ h => h) (yieldsIf_val (by rfl) (by intro W; go_simp)) h0 ?_
  simp only [List.setIfInBounds_toArray, List.set_cons_zero, List.set_cons_succ]
  refine hTakeS (i := 5) (k := 12) (v := .pointer (some ⟨b, 1, none⟩)) rfl rfl (by kernel_rfl) (by kernel_rfl) (by kernel_rfl) (fun _ _ _ h => h) (yieldsIf_val (by rfl) (by intro W; go_simp)) h0 ?_
  simp only [List.setIfInBounds_toArray, List.set_cons_zero, List.set_cons_succ]
  refine hTakeS (i := 6) (k := 13) (v := .bool false) rfl rfl (by kernel_rfl) (by kernel_rfl) (by kernel_rfl) (fun _ _ _ h => h) (.inl ⟨by rfl, fun W hW => by obtain ⟨b1, b0, br⟩ := hW; go_simp⟩) h0 ?_
  simp only [List.setIfInBounds_toArray, List.set_cons_zero, List.set_cons_succ]
  refine hTakeS (i := 7) (k := 14) (v := .bool true) rfl rfl (by kernel_rfl) (by kernel_rfl) (by kernel_rfl) (fun _ _ _ h => h) (yieldsIf_val (by rfl) (by intro W; go_simp)) h0 ?_
  simp only [List.setIfInBounds_toArray, List.set_cons_zero, List.set_cons_succ]
  refine hTakeS (i := 8) (k := 15) (v := .bool true) rfl rfl (by kernel_rfl) (by kernel_rfl) (by kernel_rfl) (fun _ _ _ h => h) (yieldsIf_val (by rfl) (by intro W; go_simp)) h0 ?_
  simp only [List.setIfInBounds_toArray, List.set_cons_zero, List.set_cons_succ]
  refine hTakeS (i := 9) (k := 16) (v := .bool true) rfl rfl (by kernel_rfl) (by kernel_rfl) (by kernel_rfl) (fun _ _ _ h => h) (yieldsIf_val (by rfl) (by intro W; go_simp)) h0 ?_
  simp only [List.setIfInBounds_toArray, List.set_cons_zero, List.set_cons_succ]
  refine hTakeS (i := 10) (k := 17) (v := .pointer (some ⟨w.heap.size, 0, none⟩)) rfl rfl (by kernel_rfl) (by kernel_rfl) (by kernel_rfl) (fun _ _ _ h => h) (yieldsIf_val (by rfl) (by intro W; go_simp)) h0 ?_
  simp only [List.setIfInBounds_toArray, List.set_cons_zero, List.set_cons_succ]
  refine hTakeS (i := 11) (k := 18) (v := .int .i64 m.kind) rfl rfl (by kernel_rfl) (by kernel_rfl) (by kernel_rfl) (fun _ _ _ h => h) (.inl ⟨by rfl, fun W hW => by obtain ⟨b1, b0, br⟩ := hW; have q0 := cell_of_row W w.heap.size 0 _ _ _ br; have q1 := cell_of_row W w.heap.size 1 _ _ _ br; simp only [MC, List.getElem?_toArray, List.getElem?_cons_zero, List.getElem?_cons_succ] at q0 q1; go_simp⟩) h0 ?_
  simp only [List.setIfInBounds_toArray, List.set_cons_zero, List.set_cons_succ]
  refine hTakeS (i := 12) (k := 19) (v := .int .i64 k) rfl rfl (by kernel_rfl) (by kernel_rfl) (by kernel_rfl) (fun _ _ _ h => h) (yieldsIf_val (by rfl) (by intro W; go_simp)) h0 ?_
  simp only [List.setIfInBounds_toArray, List.set_cons_zero, List.set_cons_succ]
  refine hTakeS (i := 13) (k := 20) (v := .bool true) rfl rfl (by kernel_rfl) (by kernel_rfl) (by kernel_rfl) (fun _ _ _ h => h) (yieldsIf_val (by rfl) (by intro W; go_simp)) h0 ?_
  simp only [List.setIfInBounds_toArray, List.set_cons_zero, List.set_cons_succ]
  refine hTakeS (i := 14) (k := 21) (v := .bool true) rfl rfl (by kernel_rfl) (by kernel_rfl) (by kernel_rfl) (fun _ _ _ h => h) (yieldsIf_val (by rfl) (by intro W; go_simp)) h0 ?_
  simp only [List.setIfInBounds_toArray, List.set_cons_zero, List.set_cons_succ]
  refine hTakeS (i := 15) (k := 22) (v := .bool true) rfl rfl (by kernel_rfl) (by kernel_rfl) (by kernel_rfl) (fun _ _ _ h => h) (yieldsIf_val (by rfl) (by intro W; go_simp)) h0 ?_
  simp only [List.setIfInBounds_toArray, List.set_cons_zero, List.set_cons_succ]
  refine hTakeS (i := 16) (k := 23) (v := .pointer (some ⟨w.heap.size, 1, none⟩)) rfl rfl (by kernel_rfl) (by kernel_rfl) (by kernel_rfl) (fun _ _ _ h => h) (yieldsIf_val (by rfl) (by intro W; go_simp)) h0 ?_
  simp only [List.setIfInBounds_toArray, List.set_cons_zero, List.set_cons_succ]
  refine hTakeS (i := 17) (k := 24) (v := .int .i64 m.dom) rfl rfl (by kernel_rfl) (by kernel_rfl) (by kernel_rfl) (fun _ _ _ h => h) (.inl ⟨by rfl, fun W hW => by obtain ⟨b1, b0, br⟩ := hW; have q0 := cell_of_row W w.heap.size 0 _ _ _ br; have q1 := cell_of_row W w.heap.size 1 _ _ _ br; simp only [MC, List.getElem?_toArray, List.getElem?_cons_zero, List.getElem?_cons_succ] at q0 q1; go_simp⟩) h0 ?_
  simp only [List.setIfInBounds_toArray, List.set_cons_zero, List.set_cons_succ]
  refine hTakeS (i := 18) (k := 25) (v := .pointer (some ⟨b, 0, none⟩)) rfl rfl (by kernel_rfl) (by kernel_rfl) (by kernel_rfl) (fun _ _ _ h => h) (yieldsIf_val (by rfl) (by intro W; go_simp)) h0 ?_
  simp only [List.setIfInBounds_toArray, List.set_cons_zero, List.set_cons_succ]
  refine hTakeS (i := 19) (k := 26) (v := .pointer (some ⟨b, 0, none⟩)) rfl rfl (by kernel_rfl) (by kernel_rfl) (by kernel_rfl) (fun _ _ _ h => h) (yieldsIf_val (by rfl) (by intro W; go_simp)) h0 ?_
  simp only [List.setIfInBounds_toArray, List.set_cons_zero, List.set_cons_succ]
  refine hTakeS (i := 20) (k := 27) (v := .pointer (some ⟨b, 0, none⟩)) rfl rfl (by kernel_rfl) (by kernel_rfl) (by kernel_rfl) (fun _ _ _ h => h) (yieldsIf_val (by rfl) (by intro W; go_simp)) h0 ?_
  simp only [List.setIfInBounds_toArray, List.set_cons_zero, List.set_cons_succ]
  refine hTakeS (i := 21) (k := 28) (v := .int .i64 s.dom) rfl rfl (by kernel_rfl) (by kernel_rfl) (by kernel_rfl) (fun _ _ _ h => h) (.inl ⟨by rfl, fun W hW => by obtain ⟨b1, b0, br⟩ := hW; go_simp⟩) h0 ?_
  simp only [List.setIfInBounds_toArray, List.set_cons_zero, List.set_cons_succ]
  refine hTakeS (i := 22) (k := 29) (v := .bool true) rfl rfl (by kernel_rfl) (by kernel_rfl) (by kernel_rfl) (fun _ _ _ h => h) (yieldsIf_val (by rfl) (by intro W; go_simp)) h0 ?_
  simp only [List.setIfInBounds_toArray, List.set_cons_zero, List.set_cons_succ]
  refine hTakeS (i := 23) (k := 30) (v := .bool true) rfl rfl (by kernel_rfl) (by kernel_rfl) (by kernel_rfl) (fun _ _ _ h => h) (yieldsIf_val (by rfl) (by intro W; go_simp)) h0 ?_
  simp only [List.setIfInBounds_toArray, List.set_cons_zero, List.set_cons_succ]
  refine hTakeS (i := 24) (k := 31) (v := .bool true) rfl rfl (by kernel_rfl) (by kernel_rfl) (by kernel_rfl) (fun _ _ _ h => h) (yieldsIf_val (by rfl) (by intro W; go_simp)) h0 ?_
  simp only [List.setIfInBounds_toArray, List.set_cons_zero, List.set_cons_succ]
  refine hTakeS (i := 25) (k := 32) (v := .agg (MC m v)) rfl rfl (by kernel_rfl) (by kernel_rfl) (by kernel_rfl) (fun _ _ _ h => h) (.inl ⟨by rfl, fun W hW => load_opM _ rfl w.heap.size rfl (MC m v) _ W hW.2.2 rfl⟩) h0 ?_
  simp only [List.setIfInBounds_toArray, List.set_cons_zero, List.set_cons_succ]
  refine hCallR (i := 26) (k := 33) (by kernel_rfl) rfl rfl (by rfl) 55 #[.agg (MC m v)] (by go_simp) (HC.out.go _ HB0.out) ?_
  rintro e w1 ⟨rfl, hb⟩
  have HB1 := Lib.hid (bTr HB0.out hb)
  have h1 : (fun V => V.cell? ⟨b, 1, none⟩ = some (.bool false) ∧ V.cell? ⟨b, 0, none⟩ = some (.int .i64 s.dom) ∧ V.heap[w.heap.size]? = some (.cells (MC m v) 37 (0, 0))) w1 := ⟨(hb.cell (block_lt_cell h0.1)).trans h0.1, (hb.cell (block_lt_cell h0.2.1)).trans h0.2.1, (hb.block _ (lt_of_heap h0.2.2)).trans h0.2.2⟩
  clear hb
  refine ⟨_, rfl, h1, ?_⟩
  simp only [List.setIfInBounds_toArray, List.set_cons_zero, List.set_cons_succ]
  refine hTakeS (i := 27) (k := 34) (v := .bool true) rfl rfl (by kernel_rfl) (by kernel_rfl) (by kernel_rfl) (fun _ _ _ h => h) (yieldsIf_val (by rfl) (by intro W; go_simp)) h1 ?_
  simp only [List.setIfInBounds_toArray, List.set_cons_zero, List.set_cons_succ]
  refine hTakeS (i := 28) (k := 35) (v := .bool true) rfl rfl (by kernel_rfl) (by kernel_rfl) (by kernel_rfl) (fun _ _ _ h => h) (yieldsIf_val (by rfl) (by intro W; go_simp)) h1 ?_
  simp only [List.setIfInBounds_toArray, List.set_cons_zero, List.set_cons_succ]
  refine hTakeS (i := 29) (k := 6) (v := .bool true) rfl rfl (by kernel_rfl) (by kernel_rfl) (by kernel_rfl) (fun _ _ _ h => h) (yieldsIf_val (by rfl) (by intro W; go_simp)) h1 ?_
  simp only [List.setIfInBounds_toArray, List.set_cons_zero, List.set_cons_succ]
  refine wpAnyH_done (by kernel_rfl) ?_ _
  go_wp2_with fail
  go_ret
  exact ⟨rfl, HB1.out⟩
end
/-- The domain's time when a Sync came, if all fits. -/
structure Arr (corr time delay r d t : Int) : Prop where
  ic : In64 corr
  ti : In64 time
  i1 : In64 (time + corr)
  id : In64 delay
  ir : In64 r
  e : rE r delay 2199023255552 = 0
  v : rV r delay 2199023255552 = d
  iv : In64 d
  it : In64 t
  t : time + corr + d = t
theorem arrival_ok {dom seq src port corr time rate delay r d t : Int} (h : Arr corr time delay r d t) (w : World) : Calls Try.prog 54 #[.agg (MC (FolM dom seq src port corr time rate) (.slice none 0 0)), .int .i64 delay, .int .i64 r] w fun e w' => e = .returned (.tuple #[.int .i64 t, .int .i64 0]) ∧ Below w.heap.size w w' := by
  have H1 := sAdd_ret h.ti h.ic
  unfold Fit at H1
  rw [fitV_in h.i1, fitE_in h.i1] at H1
  replace H1 := Lib.hid H1
  have H2 := by_ret h.id h.ir
  rw [h.e, h.v] at H2
  replace H2 := Lib.hid H2
  have H3 := sAdd_ret h.i1 h.iv
  rw [h.t] at H3
  unfold Fit at H3
  rw [fitV_in h.it, fitE_in h.it] at H3
  replace H3 := Lib.hid H3
  clear h
  unfold MC FolM
  generalize time + corr = z at *
  go_enter Try.func54, Try.ntmps54
  go_wp2_with (first
    | (go_at_call 49; (with_reducible refine (H1.out.go _).mono ?_); rintro e w1 ⟨rfl, hb⟩; have HB1 := Lib.hid (bTr (bAl (bRef w) _) hb); clear hb)
    | (go_at_call 47; (with_reducible refine (H2.out.go _).mono ?_); rintro e w2 ⟨rfl, hb⟩; have HB2 := Lib.hid (bTr HB1.out hb); clear hb)
    | (go_at_call 49; (with_reducible refine (H3.out.go _).mono ?_); rintro e w3 ⟨rfl, hb⟩; have HB3 := Lib.hid (bTr HB2.out hb); clear hb))
  go_ret2
  exact ⟨rfl, HB3.out⟩

end Go.Proofs.Ytfeoppbincldfaa
