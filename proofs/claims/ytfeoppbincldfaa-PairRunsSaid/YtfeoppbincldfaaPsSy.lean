/- Package sync: Sync, whole. -/
import Derived.Test.YtfeoppbincldfaaPsTk
namespace Go.Proofs.Ytfeoppbincldfaa
open Go.RowKit Go.Joins

section
variable {w : World} {b : Nat} {s : CS}
theorem sync_no (h : Ck w b s) (m : Mg) (v : Value) (x : Int) (hT : ∀ W, Below w.heap.size w W → Calls Try.prog 51 #[.pointer (some ⟨b, 0, none⟩), .agg (MC m v), .int .i64 0] W fun e w' => e = .returned (.bool false) ∧ Below W.heap.size W w') : Calls Try.prog 28 #[.pointer (some ⟨b, 0, none⟩), .agg (MC m v), .int .i64 x] w fun e w' => e = .returned (.int .i64 31) ∧ Below w.heap.size w w' := by
  have HT := Lib.hid (hT _ (bAl (bRef w) (.cells (MC m v) 37)))
  have hlt := h.lt
  clear h hT
  unfold MC
  go_enter Try.func28, Try.ntmps28
  go_wp2_with (first
    | ((with_reducible refine at_loadM ?_); refine wpList_loadM rfl _ rfl w.heap.size rfl (MC m v) _ (heap_alloc_new w _) rfl ?_)
    | (go_at_call 51; (refine HT.out.mono ?_); rintro e w1 ⟨rfl, hb⟩; have HB := Lib.hid (bTr (bAl (bRef w) _) hb); clear hb))
  go_ret
  exact ⟨rfl, HB.out⟩
set_option maxRecDepth 20000 in
set_option maxHeartbeats 2000000 in
theorem sync_yes (h : Ck w b s) (m : Mg) (v : Value) (x : Int) (hT : ∀ W, Below w.heap.size w W → Calls Try.prog 51 #[.pointer (some ⟨b, 0, none⟩), .agg (MC m v), .int .i64 0] W fun e w' => e = .returned (.bool true) ∧ Below W.heap.size W w') : Calls Try.prog 28 #[.pointer (some ⟨b, 0, none⟩), .agg (MC m v), .int .i64 x] w fun e w' => e = .returned (.int .i64 0) ∧ LeaveC b w (s.synced m.seq m.src x) w' := by
  have hb0 := bAl (bRef w) (.cells (MC m v) 37)
  have HT := Lib.hid (hT _ hb0)
  have hr := heap_alloc_new w (.cells (MC m v) 37)
  have HR := Lib.hid hr
  have H := Lib.hid (h.below hb0)
  have HB0 := Lib.hid hb0
  have hlt := h.lt
  have hne : w.heap.size ≠ b := by omega
  clear h hT hb0 hr
  unfold MC
  go_enter Try.func28, Try.ntmps28
  go_wp2_with (first
    | ((with_reducible refine at_loadM ?_); refine wpList_loadM rfl _ rfl w.heap.size rfl (MC m v) _ (heap_alloc_new w _) rfl ?_)
    | (go_at_call 51; (refine HT.out.mono ?_); rintro e w1 ⟨rfl, hb⟩; have hB1 := bTr HB0.out hb; have hc1 := H.out.below hb; have hr1 := (hb.block _ (lt_of_heap HR.out)).trans HR.out; clear hb))
  have k6 := hc1.c6
  have k7 := hc1.c7
  have k8 := hc1.c8
  have k9 := hc1.c9
  have kf := hc1.fz
  have m2 : w1.cell? ⟨w.heap.size, 2, none⟩ = some (.int .i64 m.seq) := cell_of_row _ _ _ _ _ _ hr1
  have m3 : w1.cell? ⟨w.heap.size, 3, none⟩ = some (.int .i64 m.src) := cell_of_row _ _ _ _ _ _ hr1
  have s1 := hc1.drew.set 6 (.bool true) (s' := { s with opn := true }) rfl
  have s2 := s1.set 7 (.int .i64 m.seq) (s' := { s with opn := true, seq := m.seq }) rfl
  have s3 := s2.set 8 (.int .i64 m.src) (s' := { s with opn := true, seq := m.seq, src := m.src }) rfl
  have HF := Lib.hid (s3.set 9 (.int .i64 x) (s' := s.synced m.seq m.src x) rfl)
  have HG := Lib.hid (set_but (set_but (set_but (set_but (ButB.of_below (b := b) hB1).drew 6 (.bool true)) 7 (.int .i64 m.seq)) 8 (.int .i64 m.src)) 9 (.int .i64 x))
  clear s1 s2 s3 hc1 hB1 hr1
  have h0 : (fun V => V.cell? ⟨w.heap.size, 2, none⟩ = some (.int .i64 m.seq) ∧ V.cell? ⟨w.heap.size, 3, none⟩ = some (.int .i64 m.src)) w1.drew := ⟨m2, m3⟩
  refine wp_region_held_drew (S := fun V => V.cell? ⟨w.heap.size, 2, none⟩ = some (.int .i64 m.seq) ∧ V.cell? ⟨w.heap.size, 3, none⟩ = some (.int .i64 m.src)) (by kernel_rfl) h0 (fun h0 => ?_)
  refine hTakeS (i := 0) (k := 11) (v := .pointer (some ⟨b, 0, none⟩)) rfl rfl (by kernel_rfl) (by kernel_rfl) (by kernel_rfl) (fun _ _ _ h => h) (yieldsIf_val (by rfl) (by intro W; go_simp)) h0 ?_
  simp only [List.setIfInBounds_toArray, List.set_cons_zero, List.set_cons_succ]
  refine hTakeS (i := 1) (k := 12) (v := .pointer (some ⟨b, 0, none⟩)) rfl rfl (by kernel_rfl) (by kernel_rfl) (by kernel_rfl) (fun _ _ _ h => h) (yieldsIf_val (by rfl) (by intro W; go_simp)) h0 ?_
  simp only [List.setIfInBounds_toArray, List.set_cons_zero, List.set_cons_succ]
  refine hTakeS (i := 2) (k := 13) (v := .pointer (some ⟨b, 0, none⟩)) rfl rfl (by kernel_rfl) (by kernel_rfl) (by kernel_rfl) (fun _ _ _ h => h) (yieldsIf_val (by rfl) (by intro W; go_simp)) h0 ?_
  simp only [List.setIfInBounds_toArray, List.set_cons_zero, List.set_cons_succ]
  refine hTakeS (i := 3) (k := 14) (v := .pointer (some ⟨b, 0, none⟩)) rfl rfl (by kernel_rfl) (by kernel_rfl) (by kernel_rfl) (fun _ _ _ h => h) (yieldsIf_val (by rfl) (by intro W; go_simp)) h0 ?_
  simp only [List.setIfInBounds_toArray, List.set_cons_zero, List.set_cons_succ]
  refine hTakeS (i := 4) (k := 15) (v := .pointer (some ⟨w.heap.size, 2, none⟩)) rfl rfl (by kernel_rfl) (by kernel_rfl) (by kernel_rfl) (fun _ _ _ h => h) (yieldsIf_val (by rfl) (by intro W; go_simp)) h0 ?_
  simp only [List.setIfInBounds_toArray, List.set_cons_zero, List.set_cons_succ]
  refine hTakeS (i := 5) (k := 16) (v := .int .i64 m.seq) rfl rfl (by kernel_rfl) (by kernel_rfl) (by kernel_rfl) (fun _ _ _ h => h) (.inl ⟨by rfl, fun W hW => by obtain ⟨b1, b0⟩ := hW; go_simp⟩) h0 ?_
  simp only [List.setIfInBounds_toArray, List.set_cons_zero, List.set_cons_succ]
  refine hTakeS (i := 6) (k := 17) (v := .pointer (some ⟨w.heap.size, 3, none⟩)) rfl rfl (by kernel_rfl) (by kernel_rfl) (by kernel_rfl) (fun _ _ _ h => h) (yieldsIf_val (by rfl) (by intro W; go_simp)) h0 ?_
  simp only [List.setIfInBounds_toArray, List.set_cons_zero, List.set_cons_succ]
  refine hTakeS (i := 7) (k := 18) (v := .int .i64 m.src) rfl rfl (by kernel_rfl) (by kernel_rfl) (by kernel_rfl) (fun _ _ _ h => h) (.inl ⟨by rfl, fun W hW => by obtain ⟨b1, b0⟩ := hW; go_simp⟩) h0 ?_
  simp only [List.setIfInBounds_toArray, List.set_cons_zero, List.set_cons_succ]
  refine hTakeS (i := 8) (k := 19) (v := .int .i64 x) rfl rfl (by kernel_rfl) (by kernel_rfl) (by kernel_rfl) (fun _ _ _ h => h) (yieldsIf_val (by rfl) (by intro W; go_simp)) h0 ?_
  simp only [List.setIfInBounds_toArray, List.set_cons_zero, List.set_cons_succ]
  refine hTakeS (i := 9) (k := 20) (v := .pointer (some ⟨b, 0, none⟩)) rfl rfl (by kernel_rfl) (by kernel_rfl) (by kernel_rfl) (fun _ _ _ h => h) (yieldsIf_val (by rfl) (by intro W; go_simp)) h0 ?_
  simp only [List.setIfInBounds_toArray, List.set_cons_zero, List.set_cons_succ]
  refine hTakeS (i := 10) (k := 21) (v := .pointer (some ⟨b, 6, none⟩)) rfl rfl (by kernel_rfl) (by kernel_rfl) (by kernel_rfl) (fun _ _ _ h => h) (yieldsIf_val (by rfl) (by intro W; go_simp)) h0 ?_
  simp only [List.setIfInBounds_toArray, List.set_cons_zero, List.set_cons_succ]
  have h11x : (fun V => V.cell? ⟨w.heap.size, 2, none⟩ = some (.int .i64 m.seq) ∧ V.cell? ⟨w.heap.size, 3, none⟩ = some (.int .i64 m.src)) (w1.drew.setCell ⟨b, 6, none⟩ (.bool true)) := ⟨cellO h0.1 hne, cellO h0.2 hne⟩
  refine hOneNS (i := 11) (w' := (w1.drew.setCell ⟨b, 6, none⟩ (.bool true))) (by kernel_rfl) rfl rfl (by rfl) (by go_simp) h11x ?_
  refine hTakeS (i := 12) (k := 22) (v := .pointer (some ⟨b, 0, none⟩)) rfl rfl (by kernel_rfl) (by kernel_rfl) (by kernel_rfl) (fun _ _ _ h => h) (yieldsIf_val (by rfl) (by intro W; go_simp)) h11x ?_
  simp only [List.setIfInBounds_toArray, List.set_cons_zero, List.set_cons_succ]
  refine hTakeS (i := 13) (k := 23) (v := .pointer (some ⟨b, 7, none⟩)) rfl rfl (by kernel_rfl) (by kernel_rfl) (by kernel_rfl) (fun _ _ _ h => h) (yieldsIf_val (by rfl) (by intro W; go_simp)) h11x ?_
  simp only [List.setIfInBounds_toArray, List.set_cons_zero, List.set_cons_succ]
  have h14x : (fun V => V.cell? ⟨w.heap.size, 2, none⟩ = some (.int .i64 m.seq) ∧ V.cell? ⟨w.heap.size, 3, none⟩ = some (.int .i64 m.src)) ((w1.drew.setCell ⟨b, 6, none⟩ (.bool true)).setCell ⟨b, 7, none⟩ (.int .i64 m.seq)) := ⟨cellO h11x.1 hne, cellO h11x.2 hne⟩
  refine hOneNS (i := 14) (w' := ((w1.drew.setCell ⟨b, 6, none⟩ (.bool true)).setCell ⟨b, 7, none⟩ (.int .i64 m.seq))) (by kernel_rfl) rfl rfl (by rfl) (by go_simp) h14x ?_
  refine hTakeS (i := 15) (k := 24) (v := .pointer (some ⟨b, 0, none⟩)) rfl rfl (by kernel_rfl) (by kernel_rfl) (by kernel_rfl) (fun _ _ _ h => h) (yieldsIf_val (by rfl) (by intro W; go_simp)) h14x ?_
  simp only [List.setIfInBounds_toArray, List.set_cons_zero, List.set_cons_succ]
  refine hTakeS (i := 16) (k := 25) (v := .pointer (some ⟨b, 8, none⟩)) rfl rfl (by kernel_rfl) (by kernel_rfl) (by kernel_rfl) (fun _ _ _ h => h) (yieldsIf_val (by rfl) (by intro W; go_simp)) h14x ?_
  simp only [List.setIfInBounds_toArray, List.set_cons_zero, List.set_cons_succ]
  have h17x : (fun V => V.cell? ⟨w.heap.size, 2, none⟩ = some (.int .i64 m.seq) ∧ V.cell? ⟨w.heap.size, 3, none⟩ = some (.int .i64 m.src)) (((w1.drew.setCell ⟨b, 6, none⟩ (.bool true)).setCell ⟨b, 7, none⟩ (.int .i64 m.seq)).setCell ⟨b, 8, none⟩ (.int .i64 m.src)) := ⟨cellO h14x.1 hne, cellO h14x.2 hne⟩
  refine hOneNS (i := 17) (w' := (((w1.drew.setCell ⟨b, 6, none⟩ (.bool true)).setCell ⟨b, 7, none⟩ (.int .i64 m.seq)).setCell ⟨b, 8, none⟩ (.int .i64 m.src))) (by kernel_rfl) rfl rfl (by rfl) (by go_simp) h17x ?_
  refine hTakeS (i := 18) (k := 26) (v := .pointer (some ⟨b, 0, none⟩)) rfl rfl (by kernel_rfl) (by kernel_rfl) (by kernel_rfl) (fun _ _ _ h => h) (yieldsIf_val (by rfl) (by intro W; go_simp)) h17x ?_
  simp only [List.setIfInBounds_toArray, List.set_cons_zero, List.set_cons_succ]
  refine hTakeS (i := 19) (k := 27) (v := .pointer (some ⟨b, 9, none⟩)) rfl rfl (by kernel_rfl) (by kernel_rfl) (by kernel_rfl) (fun _ _ _ h => h) (yieldsIf_val (by rfl) (by intro W; go_simp)) h17x ?_
  simp only [List.setIfInBounds_toArray, List.set_cons_zero, List.set_cons_succ]
  have h20x : (fun V => V.cell? ⟨w.heap.size, 2, none⟩ = some (.int .i64 m.seq) ∧ V.cell? ⟨w.heap.size, 3, none⟩ = some (.int .i64 m.src)) ((((w1.drew.setCell ⟨b, 6, none⟩ (.bool true)).setCell ⟨b, 7, none⟩ (.int .i64 m.seq)).setCell ⟨b, 8, none⟩ (.int .i64 m.src)).setCell ⟨b, 9, none⟩ (.int .i64 x)) := ⟨cellO h17x.1 hne, cellO h17x.2 hne⟩
  refine hOneNS (i := 20) (w' := ((((w1.drew.setCell ⟨b, 6, none⟩ (.bool true)).setCell ⟨b, 7, none⟩ (.int .i64 m.seq)).setCell ⟨b, 8, none⟩ (.int .i64 m.src)).setCell ⟨b, 9, none⟩ (.int .i64 x))) (by kernel_rfl) rfl rfl (by rfl) (by go_simp) h20x ?_
  refine wpAnyH_done (by kernel_rfl) ?_ _
  go_wp2_with fail
  go_ret
  exact ⟨rfl, HF.out, HG.out⟩
/-- What a Sync answers, and what it leaves. -/
def CS.syncE (s : CS) (m : Mg) (x : Nat) : Int := if s.takes m 0 x = true then 0 else 31
def CS.syncS (s : CS) (m : Mg) (x : Nat) (at_ : Int) : CS := if s.takes m 0 x = true then s.synced m.seq m.src at_ else s
theorem sync_any (h : Ck w b s) (m : Mg) (v : Value) (y : Int) {x : Nat} (hC : ChkTo w m v x) : Calls Try.prog 28 #[.pointer (some ⟨b, 0, none⟩), .agg (MC m v), .int .i64 y] w fun e w' => e = .returned (.int .i64 (s.syncE m x)) ∧ LeaveC b w (s.syncS m x y) w' := by
  have hT := fun W (hb : Below w.heap.size w W) => takes_any (h.below hb) m v 0 (hC.mono hb)
  unfold CS.syncE CS.syncS
  cases ht : s.takes m 0 x with
  | false =>
    rw [ht] at hT
    refine (sync_no h m v y hT).mono ?_
    rintro e w1 ⟨rfl, hb⟩
    exact ⟨rfl, h.below hb, ButB.of_below hb⟩
  | true =>
    rw [ht] at hT
    exact sync_yes h m v y hT
theorem CS.Ok.syncS (hs : s.Ok) (m : Mg) (x : Nat) {y : Int} (hy : In64 y) : (s.syncS m x y).Ok := by
  unfold CS.syncS
  split
  · exact ⟨hs.here, hs.there, hs.rate, hy⟩
  · exact hs
end

end Go.Proofs.Ytfeoppbincldfaa
