/- Package sync: takes, whole. -/
import Derived.Test.YtfeoppbincldfaaPsAll
namespace Go.Proofs.Ytfeoppbincldfaa
open Go.RowKit Go.Joins

/-- Whether a clock takes a message of a kind, whose Check is x. -/
def CS.takes (s : CS) (m : Mg) (k : Int) (x : Nat) : Bool := !s.own && ((m.kind == k) && ((m.dom == s.dom) && ((x : Int) == 0)))
section
variable {w : World} {b : Nat} {s : CS}
theorem takes_kind (h : Ck w b s) (ho : s.own = false) (m : Mg) (v : Value) (k : Int) (hk : (m.kind == k) = false) : Calls Try.prog 51 #[.pointer (some ⟨b, 0, none⟩), .agg (MC m v), .int .i64 k] w fun e w' => e = .returned (.bool false) ∧ Below w.heap.size w w' := by
  have c1 := h.c1
  have c0 := h.c0
  rw [ho] at c1
  have hlt := h.lt
  clear h
  unfold MC
  go_enter Try.func51, Try.ntmps51
  go_wp2_with fail
  go_quiet (fail)
  go_wp2_with fail
  go_ret
  exact ⟨rfl, bDr (bAl (bRef w) _) _⟩
theorem takes_dom (h : Ck w b s) (ho : s.own = false) (m : Mg) (v : Value) (k : Int) (hk : (m.kind == k) = true) (hd : (m.dom == s.dom) = false) : Calls Try.prog 51 #[.pointer (some ⟨b, 0, none⟩), .agg (MC m v), .int .i64 k] w fun e w' => e = .returned (.bool false) ∧ Below w.heap.size w w' := by
  have c1 := h.c1
  have c0 := h.c0
  rw [ho] at c1
  have hlt := h.lt
  clear h
  unfold MC
  go_enter Try.func51, Try.ntmps51
  go_wp2_with fail
  go_quiet (fail)
  go_wp2_with fail
  go_ret
  exact ⟨rfl, bDr (bAl (bRef w) _) _⟩
set_option maxHeartbeats 2000000 in
theorem takes_chk (h : Ck w b s) (ho : s.own = false) (m : Mg) (v : Value) (k : Int) (hk : m.kind = k) (hd : m.dom = s.dom) {x : Nat} (hC : ChkTo w m v x) : Calls Try.prog 51 #[.pointer (some ⟨b, 0, none⟩), .agg (MC m v), .int .i64 k] w fun e w' => e = .returned (.bool ((x : Int) == 0)) ∧ Below w.heap.size w w' := by
  have hb0 := bAl (bRef w) (.cells (MC m v) 37)
  have h1 := (h.below hb0).c1
  have h0 := (h.below hb0).c0
  rw [ho] at h1
  have hr := heap_alloc_new w (.cells (MC m v) 37)
  have HS : Hid ((fun V => V.cell? ⟨b, 1, none⟩ = some (.bool false) ∧ V.cell? ⟨b, 0, none⟩ = some (.int .i64 s.dom) ∧ V.heap[w.heap.size]? = some (.cells (MC m v) 37 (0, 0))) ((w.alloc (.cells (MC m v) 37)).drew)) := Lib.hid ⟨h1, h0, hr⟩
  have HC := Lib.hid hC
  have HB0 := Lib.hid (bDr1 hb0)
  have d1 : (m.kind == k) = true := by rw [beq_iff_eq]; exact hk
  have d2 : (m.dom == s.dom) = true := by rw [beq_iff_eq]; exact hd
  clear h hC hb0 h0 h1 hr hk hd
  go_enter Try.func51, Try.ntmps51
  unfold MC
  go_wp2_with fail
  refine wp_region_held_drew (S := fun V => V.cell? ⟨b, 1, none⟩ = some (.bool false) ∧ V.cell? ⟨b, 0, none⟩ = some (.int .i64 s.dom) ∧ V.heap[w.heap.size]? = some (.cells (MC m v) 37 (0, 0))) (by kernel_rfl) HS.out (fun h0 => ?_)
  refine hTakeS (i := 0) (k := 7) (v := .pointer (some ⟨b, 0, none⟩)) rfl rfl (by kernel_rfl) (by kernel_rfl) (by kernel_rfl) (fun _ _ _ h => h) (yieldsIf_val (by rfl) (by intro W; go_simp)) h0 ?_
  simp only [List.setIfInBounds_toArray, List.set_cons_zero, List.set_cons_succ]
  refine hTakeS (i := 1) (k := 8) (v := .bool true) rfl rfl (by kernel_rfl) (by kernel_rfl) (by kernel_rfl) (fun _ _ _ h => h) (yieldsIf_val (by rfl) (by intro W; go_simp)) h0 ?_
  simp only [List.setIfInBounds_toArray, List.set_cons_zero, List.set_cons_succ]
  refine hTakeS (i := 2) (k := 9) (v := .bool true) rfl rfl (by kernel_rfl) (by kernel_rfl) (by kernel_rfl) (fun _ _ _ h => h) (yieldsIf_val (by rfl) (by intro W; go_simp)) h0 ?_
  simp only [List.setIfInBounds_toArray, List.set_cons_zero, List.set_cons_succ]
  refine hTakeS (i := 3) (k := 10) (v := .pointer (some ⟨b, 0, none⟩)) rfl rfl (by kernel_rfl) (by kernel_rfl) (by kernel_rfl) (fun _ _ _ h => h) (yieldsIf_val (by rfl) (by intro W; go_simp)) h0 ?_
  simp only [List.setIfInBounds_toArray, List.set_cons_zero, List.set_cons_succ]
  refine hTakeS (i := 4) (k := 11) (v := .pointer (some ⟨b, 0, none⟩)) rfl rfl (by kernel_rfl) (by kernel_rfl) (by kernel_rfl) (fun _ _ _ h => h) (yieldsIf_val (by rfl) (by intro W; go_simp)) h0 ?_
  simp only [List.setIfInBounds_toArray, List.set_cons_zero, List.set_cons_succ]
  refine hTakeS (i := 5) (k := 12) (v := .pointer (some ⟨b, 1, none⟩)) rfl rfl (by kernel_rfl) (by kernel_rfl) (by kernel_rfl) (fun _ _ _ h => h) (yieldsIf_val (by rfl) (by intro W; go_simp)) h0 ?_
  simp only [List.setIfInBounds_toArray, List.set_cons_zero, List.set_cons_succ]
  refine hTakeS (i := 6) (k := 13) (v := .bool false) rfl rfl (by kernel_rfl) (by kernel_rfl) (by kernel_rfl) (fun _ _ _ h => h) (.inl ⟨by rfl, fun W hW => by obtain ⟨b1, b0, br⟩ := hW; go_simp⟩) h0 ?_
  simp only [List.setIfInBounds_toArray, List.set_cons_zero, List.set_cons_succ]
  refine hTakeS (i := 7) (k := 14) (v := .bool true) rfl rfl (by kernel_rfl) (by kernel_rfl) (by kernel_rfl) (fun _ _ _ h => h) (yieldsIf_val (by rfl) (by intro W; go_simp)) h0 ?_
  simp only [List.setIfInBounds_toArray, List.set_cons_zero, List.set_cons_succ]
  refine hTakeS (i := 8) (k := 15) (v := .bool true) rfl rfl (by kernel_rfl) (by kernel_rfl) (by kernel_rfl) (fun _ _ _ h => h) (yieldsIf_val (by rfl) (by intro W; go_simp)) h0 ?_
  simp only [List.setIfInBounds_toArray, List.set_cons_zero, List.set_cons_succ]
  refine hTakeS (i := 9) (k := 16) (v := .bool true) rfl rfl (by kernel_rfl) (by kernel_rfl) (by kernel_rfl) (fun _ _ _ h => h) (yieldsIf_val (by rfl) (by intro W; go_simp)) h0 ?_
  simp only [List.setIfInBounds_toArray, List.set_cons_zero, List.set_cons_succ]
  refine hTakeS (i := 10) (k := 17) (v := .pointer (some ⟨w.heap.size, 0, none⟩)) rfl rfl (by kernel_rfl) (by kernel_rfl) (by kernel_rfl) (fun _ _ _ h => h) (yieldsIf_val (by rfl) (by intro W; go_simp)) h0 ?_
  simp only [List.setIfInBounds_toArray, List.set_cons_zero, List.set_cons_succ]
  refine hTakeS (i := 11) (k := 18) (v := .int .i64 m.kind) rfl rfl (by kernel_rfl) (by kernel_rfl) (by kernel_rfl) (fun _ _ _ h => h) (.inl ⟨by rfl, fun W hW => by obtain ⟨b1, b0, br⟩ := hW; have q0 := cell_of_row W w.heap.size 0 _ _ _ br; have q1 := cell_of_row W w.heap.size 1 _ _ _ br; simp only [MC, List.getElem?_toArray, List.getElem?_cons_zero, List.getElem?_cons_succ] at q0 q1; go_simp⟩) h0 ?_
  simp only [List.setIfInBounds_toArray, List.set_cons_zero, List.set_cons_succ]
  refine hTakeS (i := 12) (k := 19) (v := .int .i64 k) rfl rfl (by kernel_rfl) (by kernel_rfl) (by kernel_rfl) (fun _ _ _ h => h) (yieldsIf_val (by rfl) (by intro W; go_simp)) h0 ?_
  simp only [List.setIfInBounds_toArray, List.set_cons_zero, List.set_cons_succ]
  refine hTakeS (i := 13) (k := 20) (v := .bool true) rfl rfl (by kernel_rfl) (by kernel_rfl) (by kernel_rfl) (fun _ _ _ h => h) (yieldsIf_val (by rfl) (by intro W; go_simp)) h0 ?_
  simp only [List.setIfInBounds_toArray, List.set_cons_zero, List.set_cons_succ]
  refine hTakeS (i := 14) (k := 21) (v := .bool true) rfl rfl (by kernel_rfl) (by kernel_rfl) (by kernel_rfl) (fun _ _ _ h => h) (yieldsIf_val (by rfl) (by intro W; go_simp)) h0 ?_
  simp only [List.setIfInBounds_toArray, List.set_cons_zero, List.set_cons_succ]
  refine hTakeS (i := 15) (k := 22) (v := .bool true) rfl rfl (by kernel_rfl) (by kernel_rfl) (by kernel_rfl) (fun _ _ _ h => h) (yieldsIf_val (by rfl) (by intro W; go_simp)) h0 ?_
  simp only [List.setIfInBounds_toArray, List.set_cons_zero, List.set_cons_succ]
  refine hTakeS (i := 16) (k := 23) (v := .pointer (some ⟨w.heap.size, 1, none⟩)) rfl rfl (by kernel_rfl) (by kernel_rfl) (by kernel_rfl) (fun _ _ _ h => h) (yieldsIf_val (by rfl) (by intro W; go_simp)) h0 ?_
  simp only [List.setIfInBounds_toArray, List.set_cons_zero, List.set_cons_succ]
  refine hTakeS (i := 17) (k := 24) (v := .int .i64 m.dom) rfl rfl (by kernel_rfl) (by kernel_rfl) (by kernel_rfl) (fun _ _ _ h => h) (.inl ⟨by rfl, fun W hW => by obtain ⟨b1, b0, br⟩ := hW; have q0 := cell_of_row W w.heap.size 0 _ _ _ br; have q1 := cell_of_row W w.heap.size 1 _ _ _ br; simp only [MC, List.getElem?_toArray, List.getElem?_cons_zero, List.getElem?_cons_succ] at q0 q1; go_simp⟩) h0 ?_
  simp only [List.setIfInBounds_toArray, List.set_cons_zero, List.set_cons_succ]
  refine hTakeS (i := 18) (k := 25) (v := .pointer (some ⟨b, 0, none⟩)) rfl rfl (by kernel_rfl) (by kernel_rfl) (by kernel_rfl) (fun _ _ _ h => h) (yieldsIf_val (by rfl) (by intro W; go_simp)) h0 ?_
  simp only [List.setIfInBounds_toArray, List.set_cons_zero, List.set_cons_succ]
  refine hTakeS (i := 19) (k := 26) (v := .pointer (some ⟨b, 0, none⟩)) rfl rfl (by kernel_rfl) (by kernel_rfl) (by kernel_rfl) (fun _ _ _ h => h) (yieldsIf_val (by rfl) (by intro W; go_simp)) h0 ?_
  simp only [List.setIfInBounds_toArray, List.set_cons_zero, List.set_cons_succ]
  refine hTakeS (i := 20) (k := 27) (v := .pointer (some ⟨b, 0, none⟩)) rfl rfl (by kernel_rfl) (by kernel_rfl) (by kernel_rfl) (fun _ _ _ h => h) (yieldsIf_val (by rfl) (by intro W; go_simp)) h0 ?_
  simp only [List.setIfInBounds_toArray, List.set_cons_zero, List.set_cons_succ]
  refine hTakeS (i := 21) (k := 28) (v := .int .i64 s.dom) rfl rfl (by kernel_rfl) (by kernel_rfl) (by kernel_rfl) (fun _ _ _ h => h) (.inl ⟨by rfl, fun W hW => by obtain ⟨b1, b0, br⟩ := hW; go_simp⟩) h0 ?_
  simp only [List.setIfInBounds_toArray, List.set_cons_zero, List.set_cons_succ]
  refine hTakeS (i := 22) (k := 29) (v := .bool true) rfl rfl (by kernel_rfl) (by kernel_rfl) (by kernel_rfl) (fun _ _ _ h => h) (yieldsIf_val (by rfl) (by intro W; go_simp)) h0 ?_
  simp only [List.setIfInBounds_toArray, List.set_cons_zero, List.set_cons_succ]
  refine hTakeS (i := 23) (k := 30) (v := .bool true) rfl rfl (by kernel_rfl) (by kernel_rfl) (by kernel_rfl) (fun _ _ _ h => h) (yieldsIf_val (by rfl) (by intro W; go_simp)) h0 ?_
  simp only [List.setIfInBounds_toArray, List.set_cons_zero, List.set_cons_succ]
  refine hTakeS (i := 24) (k := 31) (v := .bool true) rfl rfl (by kernel_rfl) (by kernel_rfl) (by kernel_rfl) (fun _ _ _ h => h) (yieldsIf_val (by rfl) (by intro W; go_simp)) h0 ?_
  simp only [List.setIfInBounds_toArray, List.set_cons_zero, List.set_cons_succ]
  refine hTakeS (i := 25) (k := 32) (v := .agg (MC m v)) rfl rfl (by kernel_rfl) (by kernel_rfl) (by kernel_rfl) (fun _ _ _ h => h) (.inl ⟨by rfl, fun W hW => load_opM _ rfl w.heap.size rfl (MC m v) _ W hW.2.2 rfl⟩) h0 ?_
  simp only [List.setIfInBounds_toArray, List.set_cons_zero, List.set_cons_succ]
  refine hCallR (i := 26) (k := 33) (by kernel_rfl) rfl rfl (by rfl) 55 #[.agg (MC m v)] (by go_simp) (HC.out.go _ HB0.out) ?_
  rintro e w1 ⟨rfl, hb⟩
  have HB1 := Lib.hid (bTr HB0.out hb)
  have h1 : (fun V => V.cell? ⟨b, 1, none⟩ = some (.bool false) ∧ V.cell? ⟨b, 0, none⟩ = some (.int .i64 s.dom) ∧ V.heap[w.heap.size]? = some (.cells (MC m v) 37 (0, 0))) w1 := ⟨(hb.cell (block_lt_cell h0.1)).trans h0.1, (hb.cell (block_lt_cell h0.2.1)).trans h0.2.1, (hb.block _ (lt_of_heap h0.2.2)).trans h0.2.2⟩
  clear hb
  refine ⟨_, rfl, h1, ?_⟩
  simp only [List.setIfInBounds_toArray, List.set_cons_zero, List.set_cons_succ]
  refine hTakeS (i := 27) (k := 34) (v := .bool ((x : Int) == 0)) rfl rfl (by kernel_rfl) (by kernel_rfl) (by kernel_rfl) (fun _ _ _ h => h) (yieldsIf_val (by rfl) (by intro W; go_simp)) h1 ?_
  simp only [List.setIfInBounds_toArray, List.set_cons_zero, List.set_cons_succ]
  refine hTakeS (i := 28) (k := 35) (v := .bool ((x : Int) == 0)) rfl rfl (by kernel_rfl) (by kernel_rfl) (by kernel_rfl) (fun _ _ _ h => h) (yieldsIf_val (by rfl) (by intro W; go_simp)) h1 ?_
  simp only [List.setIfInBounds_toArray, List.set_cons_zero, List.set_cons_succ]
  refine hTakeS (i := 29) (k := 6) (v := .bool ((x : Int) == 0)) rfl rfl (by kernel_rfl) (by kernel_rfl) (by kernel_rfl) (fun _ _ _ h => h) (yieldsIf_val (by rfl) (by intro W; go_simp)) h1 ?_
  simp only [List.setIfInBounds_toArray, List.set_cons_zero, List.set_cons_succ]
  refine wpAnyH_done (by kernel_rfl) ?_ _
  go_wp2_with fail
  go_ret
  exact ⟨rfl, HB1.out⟩
theorem takes_any (h : Ck w b s) (m : Mg) (v : Value) (k : Int) {x : Nat} (hC : ChkTo w m v x) : Calls Try.prog 51 #[.pointer (some ⟨b, 0, none⟩), .agg (MC m v), .int .i64 k] w fun e w' => e = .returned (.bool (s.takes m k x)) ∧ Below w.heap.size w w' := by
  unfold CS.takes
  cases ho : s.own with
  | true => exact takes_own h ho m v k
  | false =>
    cases hk : (m.kind == k) with
    | false => exact takes_kind h ho m v k hk
    | true =>
      cases hd : (m.dom == s.dom) with
      | false => exact takes_dom h ho m v k hk hd
      | true =>
        rw [Bool.not_false, Bool.true_and, Bool.true_and, Bool.true_and]
        exact takes_chk h ho m v k (by simpa using hk) (by simpa using hd) hC
end

end Go.Proofs.Ytfeoppbincldfaa
