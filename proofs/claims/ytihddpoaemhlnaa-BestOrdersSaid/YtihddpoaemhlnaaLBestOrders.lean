/- For any three vectors BestOrders answers true: of any two clocks and vectors the better one; each order goes one way round. No condition. -/
import Derived.Test.YtihddpoaemhlnaaFBestOrders
import Derived.Test.YtihddpoaemhlnaaBtRef
import Derived.Test.YtihddpoaemhlnaaBtLoad
namespace Go.Proofs.Ytihddpoaemhlnaa
open Go.RowKit Go.Joins Go.Deep

structure TB3 (a b c : Vc) (w V : World) : Prop where
  bel : Below w.heap.size w V
  ba : V.heap[w.heap.size]? = some (.cells (VC a) 25 (0, 0))
  bb : V.heap[w.heap.size + 1]? = some (.cells (VC b) 25 (0, 0))
  bc : V.heap[w.heap.size + 2]? = some (.cells (VC c) 25 (0, 0))
section
variable {a b c : Vc} {w V V' : World}
theorem TB3.below (h : TB3 a b c w V) (hb : Below V.heap.size V V') : TB3 a b c w V' := ⟨bTr h.bel hb, (hb.block _ (lt_of_heap h.ba)).trans h.ba, (hb.block _ (lt_of_heap h.bb)).trans h.bb, (hb.block _ (lt_of_heap h.bc)).trans h.bc⟩
theorem TB3.drew (h : TB3 a b c w V) : TB3 a b c w V.drew := h.below ⟨rfl, rfl, rfl, Nat.le_refl _, fun _ _ => rfl⟩
theorem TB3.start (a b c : Vc) (w : World) : TB3 a b c w (((w.alloc (.cells (VC a) 25)).alloc (.cells (VC b) 25)).alloc (.cells (VC c) 25)) := by
  have h1 := bAl (bRef (w.alloc (.cells (VC a) 25))) (.cells (VC b) 25)
  have h2 := bAl (bRef ((w.alloc (.cells (VC a) 25)).alloc (.cells (VC b) 25))) (.cells (VC c) 25)
  refine ⟨bAl (bAl (bAl (bRef w) _) _) _, ?_, ?_, ?_⟩
  · exact (h2.block _ (by simp; omega)).trans ((h1.block _ (by simp)).trans (heap_alloc_new w _))
  · exact (h2.block _ (by simp)).trans (heap_alloc2_new w _ _)
  · have := heap_alloc2_new (w.alloc (.cells (VC a) 25)) (.cells (VC b) 25) (.cells (VC c) 25)
    rw [show (w.alloc (.cells (VC a) 25)).heap.size + 1 = w.heap.size + 2 by simp] at this
    exact this
end
set_option maxRecDepth 20000 in
set_option maxHeartbeats 8000000 in
theorem bestOrders_any (a b c : Vc) (w : World) : Calls Try.prog 3 #[.agg (VC a), .agg (VC b), .agg (VC c)] w fun e w' => e = .returned (.bool true) ∧ Below w.heap.size w w' := by
  have H0 := Lib.hid (TB3.start a b c w)
  have HP0 := Lib.hid (fun W => pcmp_any ⟨1, 0, 0, 0⟩ ⟨2, 0, 0, 0⟩ W)
  rw [show (⟨1, 0, 0, 0⟩ : Pri).cmp ⟨2, 0, 0, 0⟩ = -1 from by decide] at HP0
  have HVaa := Lib.hid (fun W => vcmp_any a a W)
  have HVab := Lib.hid (fun W => vcmp_any a b W)
  have HVba := Lib.hid (fun W => vcmp_any b a W)
  have HVbc := Lib.hid (fun W => vcmp_any b c W)
  have HVac := Lib.hid (fun W => vcmp_any a c W)
  have HRa := Lib.hid (fun W => row_ret a W)
  have HRb := Lib.hid (fun W => row_ret b W)
  have HR8 := Lib.hid (fun W => rcmp8 a b W)
  have HR4 := Lib.hid (fun W => rcmp4 a b W)
  have HP := Lib.hid (fun W => pcmp_any a.r b.r W)
  have haa : a.cmp a = 0 := lx_self _
  have hba : a.cmp b = -b.cmp a := lx_anti _ _
  have hyv := b.cmp_vals a
  have htr : a.cmp b < 0 → b.cmp c < 0 → a.cmp c < 0 := fun h k => lx_trans a.row b.row c.row rfl rfl h k
  rw [haa] at HVaa
  clear haa
  generalize a.cmp b = x at *
  generalize b.cmp a = y at *
  generalize b.cmp c = u at *
  generalize a.cmp c = t at *
  generalize a.r.cmp b.r = p at *
  unfold PC at HP0 HP
  rw [show VC a = #[.int .i64 a.r.one, .int .i64 a.r.cls, .int .i64 a.r.two, .int .i64 a.r.id, .int .i64 a.steps, .int .i64 a.from_, .int .i64 a.port, .int .i64 a.at_] from rfl] at *
  rw [show VC b = #[.int .i64 b.r.one, .int .i64 b.r.cls, .int .i64 b.r.two, .int .i64 b.r.id, .int .i64 b.steps, .int .i64 b.from_, .int .i64 b.port, .int .i64 b.at_] from rfl] at *
  rw [show VC c = #[.int .i64 c.r.one, .int .i64 c.r.cls, .int .i64 c.r.two, .int .i64 c.r.id, .int .i64 c.steps, .int .i64 c.from_, .int .i64 c.port, .int .i64 c.at_] from rfl] at *
  have hneg : IntKind.i64.wrap (-y) = x := by rw [IntKind.wrap_i64]; omega
  have hxy : (x == x) = true := by simp
  have hxn : (x != x) = false := by simp
  have hpn : (p != p) = false := by simp
  have HTr := Lib.hid htr
  clear htr hyv hba
  go_enter Try.func3, Try.ntmps3
  go_upto_region 3 with (go_at_call 13; (with_reducible refine (HP0.out _).mono ?_); rintro e w1 ⟨rfl, hb⟩; have H1 := Lib.hid (H0.out.below hb); clear hb)
  have h0 := H1.out.drew
  refine wp_region_held_drew (S := TB3 a b c w) (by kernel_rfl) h0 (fun h0 => ?_)
  refine hTakeS (i := 0) (k := 11) (v := .agg #[.int .i64 a.r.one, .int .i64 a.r.cls, .int .i64 a.r.two, .int .i64 a.r.id, .int .i64 a.steps, .int .i64 a.from_, .int .i64 a.port, .int .i64 a.at_]) rfl rfl (by kernel_rfl) (by kernel_rfl) (by kernel_rfl) (fun _ _ _ h => h) (.inl ⟨by rfl, fun W hW => loadOp _ _ rfl _ _ #[.int .i64 a.r.one, .int .i64 a.r.cls, .int .i64 a.r.two, .int .i64 a.r.id, .int .i64 a.steps, .int .i64 a.from_, .int .i64 a.port, .int .i64 a.at_] _ (range_whole hW.ba) Try.underlying25 rfl (by kernel_rfl) rfl⟩) h0 ?_
  simp only [List.setIfInBounds_toArray, List.set_cons_zero, List.set_cons_succ]
  refine hTakeS (i := 1) (k := 12) (v := .agg #[.int .i64 b.r.one, .int .i64 b.r.cls, .int .i64 b.r.two, .int .i64 b.r.id, .int .i64 b.steps, .int .i64 b.from_, .int .i64 b.port, .int .i64 b.at_]) rfl rfl (by kernel_rfl) (by kernel_rfl) (by kernel_rfl) (fun _ _ _ h => h) (.inl ⟨by rfl, fun W hW => loadOp _ _ rfl _ _ #[.int .i64 b.r.one, .int .i64 b.r.cls, .int .i64 b.r.two, .int .i64 b.r.id, .int .i64 b.steps, .int .i64 b.from_, .int .i64 b.port, .int .i64 b.at_] _ (range_whole hW.bb) Try.underlying25 rfl (by kernel_rfl) rfl⟩) h0 ?_
  simp only [List.setIfInBounds_toArray, List.set_cons_zero, List.set_cons_succ]
  refine hTakeS (i := 3) (k := 14) (v := .agg #[.int .i64 a.r.one, .int .i64 a.r.cls, .int .i64 a.r.two, .int .i64 a.r.id, .int .i64 a.steps, .int .i64 a.from_, .int .i64 a.port, .int .i64 a.at_]) rfl rfl (by kernel_rfl) (by kernel_rfl) (by kernel_rfl) (fun _ _ _ h => h) (.inl ⟨by rfl, fun W hW => loadOp _ _ rfl _ _ #[.int .i64 a.r.one, .int .i64 a.r.cls, .int .i64 a.r.two, .int .i64 a.r.id, .int .i64 a.steps, .int .i64 a.from_, .int .i64 a.port, .int .i64 a.at_] _ (range_whole hW.ba) Try.underlying25 rfl (by kernel_rfl) rfl⟩) h0 ?_
  simp only [List.setIfInBounds_toArray, List.set_cons_zero, List.set_cons_succ]
  refine hTakeS (i := 5) (k := 16) (v := .agg #[.int .i64 b.r.one, .int .i64 b.r.cls, .int .i64 b.r.two, .int .i64 b.r.id, .int .i64 b.steps, .int .i64 b.from_, .int .i64 b.port, .int .i64 b.at_]) rfl rfl (by kernel_rfl) (by kernel_rfl) (by kernel_rfl) (fun _ _ _ h => h) (.inl ⟨by rfl, fun W hW => loadOp _ _ rfl _ _ #[.int .i64 b.r.one, .int .i64 b.r.cls, .int .i64 b.r.two, .int .i64 b.r.id, .int .i64 b.steps, .int .i64 b.from_, .int .i64 b.port, .int .i64 b.at_] _ (range_whole hW.bb) Try.underlying25 rfl (by kernel_rfl) rfl⟩) h0 ?_
  simp only [List.setIfInBounds_toArray, List.set_cons_zero, List.set_cons_succ]
  refine hCall (i := 2) (k := 13) (by kernel_rfl) rfl rfl (by rfl) 14 #[.agg #[.int .i64 a.r.one, .int .i64 a.r.cls, .int .i64 a.r.two, .int .i64 a.r.id, .int .i64 a.steps, .int .i64 a.from_, .int .i64 a.port, .int .i64 a.at_], .agg #[.int .i64 b.r.one, .int .i64 b.r.cls, .int .i64 b.r.two, .int .i64 b.r.id, .int .i64 b.steps, .int .i64 b.from_, .int .i64 b.port, .int .i64 b.at_]] (by intro W; go_simp) (.int .i64 x) (fun W hW => (HVab.out W).mono fun e W1 hh => ⟨hh.1, hW.below hh.2⟩) h0 (fun V1 k1 => ?_)
  simp only [List.setIfInBounds_toArray, List.set_cons_zero, List.set_cons_succ]
  refine hCall (i := 4) (k := 15) (by kernel_rfl) rfl rfl (by rfl) 16 #[.agg #[.int .i64 a.r.one, .int .i64 a.r.cls, .int .i64 a.r.two, .int .i64 a.r.id, .int .i64 a.steps, .int .i64 a.from_, .int .i64 a.port, .int .i64 a.at_]] (by intro W; go_simp) (.agg #[.int .i64 a.r.one, .int .i64 a.r.cls, .int .i64 a.r.two, .int .i64 a.r.id, .int .i64 a.steps, .int .i64 a.from_, .int .i64 a.port, .int .i64 a.at_]) (fun W hW => (HRa.out W).mono fun e W1 hh => ⟨hh.1, hW.below hh.2⟩) k1 (fun V2 k2 => ?_)
  simp only [List.setIfInBounds_toArray, List.set_cons_zero, List.set_cons_succ]
  refine hCall (i := 6) (k := 17) (by kernel_rfl) rfl rfl (by rfl) 16 #[.agg #[.int .i64 b.r.one, .int .i64 b.r.cls, .int .i64 b.r.two, .int .i64 b.r.id, .int .i64 b.steps, .int .i64 b.from_, .int .i64 b.port, .int .i64 b.at_]] (by intro W; go_simp) (.agg #[.int .i64 b.r.one, .int .i64 b.r.cls, .int .i64 b.r.two, .int .i64 b.r.id, .int .i64 b.steps, .int .i64 b.from_, .int .i64 b.port, .int .i64 b.at_]) (fun W hW => (HRb.out W).mono fun e W1 hh => ⟨hh.1, hW.below hh.2⟩) k2 (fun V3 k3 => ?_)
  simp only [List.setIfInBounds_toArray, List.set_cons_zero, List.set_cons_succ]
  refine hCall (i := 7) (k := 18) (by kernel_rfl) rfl rfl (by rfl) 15 #[.agg #[.int .i64 a.r.one, .int .i64 a.r.cls, .int .i64 a.r.two, .int .i64 a.r.id, .int .i64 a.steps, .int .i64 a.from_, .int .i64 a.port, .int .i64 a.at_], .agg #[.int .i64 b.r.one, .int .i64 b.r.cls, .int .i64 b.r.two, .int .i64 b.r.id, .int .i64 b.steps, .int .i64 b.from_, .int .i64 b.port, .int .i64 b.at_], .int .i64 8] (by intro W; go_simp) (.int .i64 x) (fun W hW => (HR8.out W).mono fun e W1 hh => ⟨hh.1, hW.below hh.2⟩) k3 (fun V4 k4 => ?_)
  simp only [List.setIfInBounds_toArray, List.set_cons_zero, List.set_cons_succ]
  refine hTakeS (i := 8) (k := 19) (v := .bool false) rfl rfl (by kernel_rfl) (by kernel_rfl) (by kernel_rfl) (fun _ _ _ h => h) (yieldsIf_val (by rfl) (by intro W; go_simp)) k4 ?_
  simp only [List.setIfInBounds_toArray, List.set_cons_zero, List.set_cons_succ]
  refine hTakeS (i := 9) (k := 20) (v := .bool false) rfl rfl (by kernel_rfl) (by kernel_rfl) (by kernel_rfl) (fun _ _ _ h => h) (yieldsIf_val (by rfl) (by intro W; go_simp)) k4 ?_
  simp only [List.setIfInBounds_toArray, List.set_cons_zero, List.set_cons_succ]
  refine hTakeS (i := 10) (k := 21) (v := .pointer (some ⟨w.heap.size, 0, none⟩)) rfl rfl (by kernel_rfl) (by kernel_rfl) (by kernel_rfl) (fun _ _ _ h => h) (yieldsIf_val (by rfl) (by intro W; go_simp)) k4 ?_
  simp only [List.setIfInBounds_toArray, List.set_cons_zero, List.set_cons_succ]
  refine hTakeS (i := 11) (k := 22) (v := .agg #[.int .i64 a.r.one, .int .i64 a.r.cls, .int .i64 a.r.two, .int .i64 a.r.id]) rfl rfl (by kernel_rfl) (by kernel_rfl) (by kernel_rfl) (fun _ _ _ h => h) (.inl ⟨by rfl, fun W hW => loadOp _ _ rfl _ _ #[.int .i64 a.r.one, .int .i64 a.r.cls, .int .i64 a.r.two, .int .i64 a.r.id] _ (range_of_row hW.ba 0 _ (vhead a)) Try.underlying23 rfl (by kernel_rfl) rfl⟩) k4 ?_
  simp only [List.setIfInBounds_toArray, List.set_cons_zero, List.set_cons_succ]
  refine hTakeS (i := 12) (k := 23) (v := .pointer (some ⟨w.heap.size + 1, 0, none⟩)) rfl rfl (by kernel_rfl) (by kernel_rfl) (by kernel_rfl) (fun _ _ _ h => h) (yieldsIf_val (by rfl) (by intro W; go_simp)) k4 ?_
  simp only [List.setIfInBounds_toArray, List.set_cons_zero, List.set_cons_succ]
  refine hTakeS (i := 13) (k := 24) (v := .agg #[.int .i64 b.r.one, .int .i64 b.r.cls, .int .i64 b.r.two, .int .i64 b.r.id]) rfl rfl (by kernel_rfl) (by kernel_rfl) (by kernel_rfl) (fun _ _ _ h => h) (.inl ⟨by rfl, fun W hW => loadOp _ _ rfl _ _ #[.int .i64 b.r.one, .int .i64 b.r.cls, .int .i64 b.r.two, .int .i64 b.r.id] _ (range_of_row hW.bb 0 _ (vhead b)) Try.underlying23 rfl (by kernel_rfl) rfl⟩) k4 ?_
  simp only [List.setIfInBounds_toArray, List.set_cons_zero, List.set_cons_succ]
  refine hTakeS (i := 15) (k := 26) (v := .agg #[.int .i64 a.r.one, .int .i64 a.r.cls, .int .i64 a.r.two, .int .i64 a.r.id, .int .i64 a.steps, .int .i64 a.from_, .int .i64 a.port, .int .i64 a.at_]) rfl rfl (by kernel_rfl) (by kernel_rfl) (by kernel_rfl) (fun _ _ _ h => h) (.inl ⟨by rfl, fun W hW => loadOp _ _ rfl _ _ #[.int .i64 a.r.one, .int .i64 a.r.cls, .int .i64 a.r.two, .int .i64 a.r.id, .int .i64 a.steps, .int .i64 a.from_, .int .i64 a.port, .int .i64 a.at_] _ (range_whole hW.ba) Try.underlying25 rfl (by kernel_rfl) rfl⟩) k4 ?_
  simp only [List.setIfInBounds_toArray, List.set_cons_zero, List.set_cons_succ]
  refine hTakeS (i := 17) (k := 28) (v := .agg #[.int .i64 b.r.one, .int .i64 b.r.cls, .int .i64 b.r.two, .int .i64 b.r.id, .int .i64 b.steps, .int .i64 b.from_, .int .i64 b.port, .int .i64 b.at_]) rfl rfl (by kernel_rfl) (by kernel_rfl) (by kernel_rfl) (fun _ _ _ h => h) (.inl ⟨by rfl, fun W hW => loadOp _ _ rfl _ _ #[.int .i64 b.r.one, .int .i64 b.r.cls, .int .i64 b.r.two, .int .i64 b.r.id, .int .i64 b.steps, .int .i64 b.from_, .int .i64 b.port, .int .i64 b.at_] _ (range_whole hW.bb) Try.underlying25 rfl (by kernel_rfl) rfl⟩) k4 ?_
  simp only [List.setIfInBounds_toArray, List.set_cons_zero, List.set_cons_succ]
  refine hCall (i := 14) (k := 25) (by kernel_rfl) rfl rfl (by rfl) 13 #[.agg #[.int .i64 a.r.one, .int .i64 a.r.cls, .int .i64 a.r.two, .int .i64 a.r.id], .agg #[.int .i64 b.r.one, .int .i64 b.r.cls, .int .i64 b.r.two, .int .i64 b.r.id]] (by intro W; go_simp) (.int .i64 p) (fun W hW => (HP.out W).mono fun e W1 hh => ⟨hh.1, hW.below hh.2⟩) k4 (fun V5 k5 => ?_)
  simp only [List.setIfInBounds_toArray, List.set_cons_zero, List.set_cons_succ]
  refine hCall (i := 16) (k := 27) (by kernel_rfl) rfl rfl (by rfl) 16 #[.agg #[.int .i64 a.r.one, .int .i64 a.r.cls, .int .i64 a.r.two, .int .i64 a.r.id, .int .i64 a.steps, .int .i64 a.from_, .int .i64 a.port, .int .i64 a.at_]] (by intro W; go_simp) (.agg #[.int .i64 a.r.one, .int .i64 a.r.cls, .int .i64 a.r.two, .int .i64 a.r.id, .int .i64 a.steps, .int .i64 a.from_, .int .i64 a.port, .int .i64 a.at_]) (fun W hW => (HRa.out W).mono fun e W1 hh => ⟨hh.1, hW.below hh.2⟩) k5 (fun V6 k6 => ?_)
  simp only [List.setIfInBounds_toArray, List.set_cons_zero, List.set_cons_succ]
  refine hCall (i := 18) (k := 29) (by kernel_rfl) rfl rfl (by rfl) 16 #[.agg #[.int .i64 b.r.one, .int .i64 b.r.cls, .int .i64 b.r.two, .int .i64 b.r.id, .int .i64 b.steps, .int .i64 b.from_, .int .i64 b.port, .int .i64 b.at_]] (by intro W; go_simp) (.agg #[.int .i64 b.r.one, .int .i64 b.r.cls, .int .i64 b.r.two, .int .i64 b.r.id, .int .i64 b.steps, .int .i64 b.from_, .int .i64 b.port, .int .i64 b.at_]) (fun W hW => (HRb.out W).mono fun e W1 hh => ⟨hh.1, hW.below hh.2⟩) k6 (fun V7 k7 => ?_)
  simp only [List.setIfInBounds_toArray, List.set_cons_zero, List.set_cons_succ]
  refine hCall (i := 19) (k := 30) (by kernel_rfl) rfl rfl (by rfl) 15 #[.agg #[.int .i64 a.r.one, .int .i64 a.r.cls, .int .i64 a.r.two, .int .i64 a.r.id, .int .i64 a.steps, .int .i64 a.from_, .int .i64 a.port, .int .i64 a.at_], .agg #[.int .i64 b.r.one, .int .i64 b.r.cls, .int .i64 b.r.two, .int .i64 b.r.id, .int .i64 b.steps, .int .i64 b.from_, .int .i64 b.port, .int .i64 b.at_], .int .i64 4] (by intro W; go_simp) (.int .i64 p) (fun W hW => (HR4.out W).mono fun e W1 hh => ⟨hh.1, hW.below hh.2⟩) k7 (fun V8 k8 => ?_)
  simp only [List.setIfInBounds_toArray, List.set_cons_zero, List.set_cons_succ]
  refine hTakeS (i := 20) (k := 31) (v := .bool false) rfl rfl (by kernel_rfl) (by kernel_rfl) (by kernel_rfl) (fun _ _ _ h => h) (yieldsIf_val (by rfl) (by intro W; go_simp)) k8 ?_
  simp only [List.setIfInBounds_toArray, List.set_cons_zero, List.set_cons_succ]
  refine hTakeS (i := 21) (k := 32) (v := .bool false) rfl rfl (by kernel_rfl) (by kernel_rfl) (by kernel_rfl) (fun _ _ _ h => h) (yieldsIf_val (by rfl) (by intro W; go_simp)) k8 ?_
  simp only [List.setIfInBounds_toArray, List.set_cons_zero, List.set_cons_succ]
  refine wpAnyH_done (by kernel_rfl) ?_ _
  have H2 := Lib.hid k8
  clear h0 k1 k2 k3 k4 k5 k6 k7 k8 H0 H1
  go_upto_region 5 with fail
  have h0 := H2.out.drew
  rcases Int.lt_or_le x 0 with hx | hx
  · have hx1 : decide (x < 0) = true := decide_eq_true hx
    rcases Int.lt_or_le u 0 with hu | hu
    · have hu1 : decide (u < 0) = true := decide_eq_true hu
      have ht := HTr.out hx hu
      have ht1 : decide (0 ≤ t) = false := decide_eq_false (by omega)
      refine wp_region_held_drew (S := TB3 a b c w) (by kernel_rfl) h0 (fun h0 => ?_)
      refine hTakeS (i := 0) (k := 33) (v := .agg #[.int .i64 a.r.one, .int .i64 a.r.cls, .int .i64 a.r.two, .int .i64 a.r.id, .int .i64 a.steps, .int .i64 a.from_, .int .i64 a.port, .int .i64 a.at_]) rfl rfl (by kernel_rfl) (by kernel_rfl) (by kernel_rfl) (fun _ _ _ h => h) (.inl ⟨by rfl, fun W hW => loadOp _ _ rfl _ _ #[.int .i64 a.r.one, .int .i64 a.r.cls, .int .i64 a.r.two, .int .i64 a.r.id, .int .i64 a.steps, .int .i64 a.from_, .int .i64 a.port, .int .i64 a.at_] _ (range_whole hW.ba) Try.underlying25 rfl (by kernel_rfl) rfl⟩) h0 ?_
      simp only [List.setIfInBounds_toArray, List.set_cons_zero, List.set_cons_succ]
      refine hTakeS (i := 1) (k := 34) (v := .agg #[.int .i64 a.r.one, .int .i64 a.r.cls, .int .i64 a.r.two, .int .i64 a.r.id, .int .i64 a.steps, .int .i64 a.from_, .int .i64 a.port, .int .i64 a.at_]) rfl rfl (by kernel_rfl) (by kernel_rfl) (by kernel_rfl) (fun _ _ _ h => h) (.inl ⟨by rfl, fun W hW => loadOp _ _ rfl _ _ #[.int .i64 a.r.one, .int .i64 a.r.cls, .int .i64 a.r.two, .int .i64 a.r.id, .int .i64 a.steps, .int .i64 a.from_, .int .i64 a.port, .int .i64 a.at_] _ (range_whole hW.ba) Try.underlying25 rfl (by kernel_rfl) rfl⟩) h0 ?_
      simp only [List.setIfInBounds_toArray, List.set_cons_zero, List.set_cons_succ]
      refine hCall (i := 2) (k := 35) (by kernel_rfl) rfl rfl (by rfl) 14 #[.agg #[.int .i64 a.r.one, .int .i64 a.r.cls, .int .i64 a.r.two, .int .i64 a.r.id, .int .i64 a.steps, .int .i64 a.from_, .int .i64 a.port, .int .i64 a.at_], .agg #[.int .i64 a.r.one, .int .i64 a.r.cls, .int .i64 a.r.two, .int .i64 a.r.id, .int .i64 a.steps, .int .i64 a.from_, .int .i64 a.port, .int .i64 a.at_]] (by intro W; go_simp) (.int .i64 0) (fun W hW => (HVaa.out W).mono fun e W1 hh => ⟨hh.1, hW.below hh.2⟩) h0 (fun V101 k101 => ?_)
      simp only [List.setIfInBounds_toArray, List.set_cons_zero, List.set_cons_succ]
      refine hTakeS (i := 3) (k := 36) (v := .bool true) rfl rfl (by kernel_rfl) (by kernel_rfl) (by kernel_rfl) (fun _ _ _ h => h) (yieldsIf_val (by rfl) (by intro W; go_simp)) k101 ?_
      simp only [List.setIfInBounds_toArray, List.set_cons_zero, List.set_cons_succ]
      refine hTakeS (i := 4) (k := 37) (v := .bool true) rfl rfl (by kernel_rfl) (by kernel_rfl) (by kernel_rfl) (fun _ _ _ h => h) (yieldsIf_val (by rfl) (by intro W; go_simp)) k101 ?_
      simp only [List.setIfInBounds_toArray, List.set_cons_zero, List.set_cons_succ]
      refine hTakeS (i := 5) (k := 38) (v := .agg #[.int .i64 a.r.one, .int .i64 a.r.cls, .int .i64 a.r.two, .int .i64 a.r.id, .int .i64 a.steps, .int .i64 a.from_, .int .i64 a.port, .int .i64 a.at_]) rfl rfl (by kernel_rfl) (by kernel_rfl) (by kernel_rfl) (fun _ _ _ h => h) (.inl ⟨by rfl, fun W hW => loadOp _ _ rfl _ _ #[.int .i64 a.r.one, .int .i64 a.r.cls, .int .i64 a.r.two, .int .i64 a.r.id, .int .i64 a.steps, .int .i64 a.from_, .int .i64 a.port, .int .i64 a.at_] _ (range_whole hW.ba) Try.underlying25 rfl (by kernel_rfl) rfl⟩) k101 ?_
      simp only [List.setIfInBounds_toArray, List.set_cons_zero, List.set_cons_succ]
      refine hTakeS (i := 6) (k := 39) (v := .agg #[.int .i64 b.r.one, .int .i64 b.r.cls, .int .i64 b.r.two, .int .i64 b.r.id, .int .i64 b.steps, .int .i64 b.from_, .int .i64 b.port, .int .i64 b.at_]) rfl rfl (by kernel_rfl) (by kernel_rfl) (by kernel_rfl) (fun _ _ _ h => h) (.inl ⟨by rfl, fun W hW => loadOp _ _ rfl _ _ #[.int .i64 b.r.one, .int .i64 b.r.cls, .int .i64 b.r.two, .int .i64 b.r.id, .int .i64 b.steps, .int .i64 b.from_, .int .i64 b.port, .int .i64 b.at_] _ (range_whole hW.bb) Try.underlying25 rfl (by kernel_rfl) rfl⟩) k101 ?_
      simp only [List.setIfInBounds_toArray, List.set_cons_zero, List.set_cons_succ]
      refine hTakeS (i := 8) (k := 41) (v := .agg #[.int .i64 b.r.one, .int .i64 b.r.cls, .int .i64 b.r.two, .int .i64 b.r.id, .int .i64 b.steps, .int .i64 b.from_, .int .i64 b.port, .int .i64 b.at_]) rfl rfl (by kernel_rfl) (by kernel_rfl) (by kernel_rfl) (fun _ _ _ h => h) (.inl ⟨by rfl, fun W hW => loadOp _ _ rfl _ _ #[.int .i64 b.r.one, .int .i64 b.r.cls, .int .i64 b.r.two, .int .i64 b.r.id, .int .i64 b.steps, .int .i64 b.from_, .int .i64 b.port, .int .i64 b.at_] _ (range_whole hW.bb) Try.underlying25 rfl (by kernel_rfl) rfl⟩) k101 ?_
      simp only [List.setIfInBounds_toArray, List.set_cons_zero, List.set_cons_succ]
      refine hTakeS (i := 9) (k := 42) (v := .agg #[.int .i64 a.r.one, .int .i64 a.r.cls, .int .i64 a.r.two, .int .i64 a.r.id, .int .i64 a.steps, .int .i64 a.from_, .int .i64 a.port, .int .i64 a.at_]) rfl rfl (by kernel_rfl) (by kernel_rfl) (by kernel_rfl) (fun _ _ _ h => h) (.inl ⟨by rfl, fun W hW => loadOp _ _ rfl _ _ #[.int .i64 a.r.one, .int .i64 a.r.cls, .int .i64 a.r.two, .int .i64 a.r.id, .int .i64 a.steps, .int .i64 a.from_, .int .i64 a.port, .int .i64 a.at_] _ (range_whole hW.ba) Try.underlying25 rfl (by kernel_rfl) rfl⟩) k101 ?_
      simp only [List.setIfInBounds_toArray, List.set_cons_zero, List.set_cons_succ]
      refine hCall (i := 7) (k := 40) (by kernel_rfl) rfl rfl (by rfl) 14 #[.agg #[.int .i64 a.r.one, .int .i64 a.r.cls, .int .i64 a.r.two, .int .i64 a.r.id, .int .i64 a.steps, .int .i64 a.from_, .int .i64 a.port, .int .i64 a.at_], .agg #[.int .i64 b.r.one, .int .i64 b.r.cls, .int .i64 b.r.two, .int .i64 b.r.id, .int .i64 b.steps, .int .i64 b.from_, .int .i64 b.port, .int .i64 b.at_]] (by intro W; go_simp) (.int .i64 x) (fun W hW => (HVab.out W).mono fun e W1 hh => ⟨hh.1, hW.below hh.2⟩) k101 (fun V102 k102 => ?_)
      simp only [List.setIfInBounds_toArray, List.set_cons_zero, List.set_cons_succ]
      refine hCall (i := 10) (k := 43) (by kernel_rfl) rfl rfl (by rfl) 14 #[.agg #[.int .i64 b.r.one, .int .i64 b.r.cls, .int .i64 b.r.two, .int .i64 b.r.id, .int .i64 b.steps, .int .i64 b.from_, .int .i64 b.port, .int .i64 b.at_], .agg #[.int .i64 a.r.one, .int .i64 a.r.cls, .int .i64 a.r.two, .int .i64 a.r.id, .int .i64 a.steps, .int .i64 a.from_, .int .i64 a.port, .int .i64 a.at_]] (by intro W; go_simp) (.int .i64 y) (fun W hW => (HVba.out W).mono fun e W1 hh => ⟨hh.1, hW.below hh.2⟩) k102 (fun V103 k103 => ?_)
      simp only [List.setIfInBounds_toArray, List.set_cons_zero, List.set_cons_succ]
      refine hTakeS (i := 11) (k := 44) (v := .int .i64 x) rfl rfl (by kernel_rfl) (by kernel_rfl) (by kernel_rfl) (fun _ _ _ h => h) (yieldsIf_val (by rfl) (by intro W; go_simp)) k103 ?_
      simp only [List.setIfInBounds_toArray, List.set_cons_zero, List.set_cons_succ]
      refine hTakeS (i := 12) (k := 45) (v := .bool true) rfl rfl (by kernel_rfl) (by kernel_rfl) (by kernel_rfl) (fun _ _ _ h => h) (yieldsIf_val (by rfl) (by intro W; go_simp)) k103 ?_
      simp only [List.setIfInBounds_toArray, List.set_cons_zero, List.set_cons_succ]
      refine hTakeS (i := 13) (k := 46) (v := .bool true) rfl rfl (by kernel_rfl) (by kernel_rfl) (by kernel_rfl) (fun _ _ _ h => h) (yieldsIf_val (by rfl) (by intro W; go_simp)) k103 ?_
      simp only [List.setIfInBounds_toArray, List.set_cons_zero, List.set_cons_succ]
      refine hTakeS (i := 14) (k := 47) (v := .bool true) rfl rfl (by kernel_rfl) (by kernel_rfl) (by kernel_rfl) (fun _ _ _ h => h) (yieldsIf_val (by rfl) (by intro W; go_simp)) k103 ?_
      simp only [List.setIfInBounds_toArray, List.set_cons_zero, List.set_cons_succ]
      refine hTakeS (i := 15) (k := 48) (v := .agg #[.int .i64 a.r.one, .int .i64 a.r.cls, .int .i64 a.r.two, .int .i64 a.r.id, .int .i64 a.steps, .int .i64 a.from_, .int .i64 a.port, .int .i64 a.at_]) rfl rfl (by kernel_rfl) (by kernel_rfl) (by kernel_rfl) (fun _ _ _ h => h) (.inl ⟨by rfl, fun W hW => loadOp _ _ rfl _ _ #[.int .i64 a.r.one, .int .i64 a.r.cls, .int .i64 a.r.two, .int .i64 a.r.id, .int .i64 a.steps, .int .i64 a.from_, .int .i64 a.port, .int .i64 a.at_] _ (range_whole hW.ba) Try.underlying25 rfl (by kernel_rfl) rfl⟩) k103 ?_
      simp only [List.setIfInBounds_toArray, List.set_cons_zero, List.set_cons_succ]
      refine hTakeS (i := 16) (k := 49) (v := .agg #[.int .i64 b.r.one, .int .i64 b.r.cls, .int .i64 b.r.two, .int .i64 b.r.id, .int .i64 b.steps, .int .i64 b.from_, .int .i64 b.port, .int .i64 b.at_]) rfl rfl (by kernel_rfl) (by kernel_rfl) (by kernel_rfl) (fun _ _ _ h => h) (.inl ⟨by rfl, fun W hW => loadOp _ _ rfl _ _ #[.int .i64 b.r.one, .int .i64 b.r.cls, .int .i64 b.r.two, .int .i64 b.r.id, .int .i64 b.steps, .int .i64 b.from_, .int .i64 b.port, .int .i64 b.at_] _ (range_whole hW.bb) Try.underlying25 rfl (by kernel_rfl) rfl⟩) k103 ?_
      simp only [List.setIfInBounds_toArray, List.set_cons_zero, List.set_cons_succ]
      refine hCall (i := 17) (k := 50) (by kernel_rfl) rfl rfl (by rfl) 14 #[.agg #[.int .i64 a.r.one, .int .i64 a.r.cls, .int .i64 a.r.two, .int .i64 a.r.id, .int .i64 a.steps, .int .i64 a.from_, .int .i64 a.port, .int .i64 a.at_], .agg #[.int .i64 b.r.one, .int .i64 b.r.cls, .int .i64 b.r.two, .int .i64 b.r.id, .int .i64 b.steps, .int .i64 b.from_, .int .i64 b.port, .int .i64 b.at_]] (by intro W; go_simp) (.int .i64 x) (fun W hW => (HVab.out W).mono fun e W1 hh => ⟨hh.1, hW.below hh.2⟩) k103 (fun V104 k104 => ?_)
      simp only [List.setIfInBounds_toArray, List.set_cons_zero, List.set_cons_succ]
      refine hTakeS (i := 18) (k := 51) (v := .bool true) rfl rfl (by kernel_rfl) (by kernel_rfl) (by kernel_rfl) (fun _ _ _ h => h) (yieldsIf_val (by rfl) (by intro W; go_simp)) k104 ?_
      simp only [List.setIfInBounds_toArray, List.set_cons_zero, List.set_cons_succ]
      refine hTakeS (i := 19) (k := 52) (v := .bool true) rfl rfl (by kernel_rfl) (by kernel_rfl) (by kernel_rfl) (fun _ _ _ h => h) (yieldsIf_val (by rfl) (by intro W; go_simp)) k104 ?_
      simp only [List.setIfInBounds_toArray, List.set_cons_zero, List.set_cons_succ]
      refine hTakeS (i := 20) (k := 53) (v := .agg #[.int .i64 b.r.one, .int .i64 b.r.cls, .int .i64 b.r.two, .int .i64 b.r.id, .int .i64 b.steps, .int .i64 b.from_, .int .i64 b.port, .int .i64 b.at_]) rfl rfl (by kernel_rfl) (by kernel_rfl) (by kernel_rfl) (fun _ _ _ h => h) (.inl ⟨by rfl, fun W hW => loadOp _ _ rfl _ _ #[.int .i64 b.r.one, .int .i64 b.r.cls, .int .i64 b.r.two, .int .i64 b.r.id, .int .i64 b.steps, .int .i64 b.from_, .int .i64 b.port, .int .i64 b.at_] _ (range_whole hW.bb) Try.underlying25 rfl (by kernel_rfl) rfl⟩) k104 ?_
      simp only [List.setIfInBounds_toArray, List.set_cons_zero, List.set_cons_succ]
      refine hTakeS (i := 21) (k := 54) (v := .agg #[.int .i64 c.r.one, .int .i64 c.r.cls, .int .i64 c.r.two, .int .i64 c.r.id, .int .i64 c.steps, .int .i64 c.from_, .int .i64 c.port, .int .i64 c.at_]) rfl rfl (by kernel_rfl) (by kernel_rfl) (by kernel_rfl) (fun _ _ _ h => h) (.inl ⟨by rfl, fun W hW => loadOp _ _ rfl _ _ #[.int .i64 c.r.one, .int .i64 c.r.cls, .int .i64 c.r.two, .int .i64 c.r.id, .int .i64 c.steps, .int .i64 c.from_, .int .i64 c.port, .int .i64 c.at_] _ (range_whole hW.bc) Try.underlying25 rfl (by kernel_rfl) rfl⟩) k104 ?_
      simp only [List.setIfInBounds_toArray, List.set_cons_zero, List.set_cons_succ]
      refine hCall (i := 22) (k := 55) (by kernel_rfl) rfl rfl (by rfl) 14 #[.agg #[.int .i64 b.r.one, .int .i64 b.r.cls, .int .i64 b.r.two, .int .i64 b.r.id, .int .i64 b.steps, .int .i64 b.from_, .int .i64 b.port, .int .i64 b.at_], .agg #[.int .i64 c.r.one, .int .i64 c.r.cls, .int .i64 c.r.two, .int .i64 c.r.id, .int .i64 c.steps, .int .i64 c.from_, .int .i64 c.port, .int .i64 c.at_]] (by intro W; go_simp) (.int .i64 u) (fun W hW => (HVbc.out W).mono fun e W1 hh => ⟨hh.1, hW.below hh.2⟩) k104 (fun V105 k105 => ?_)
      simp only [List.setIfInBounds_toArray, List.set_cons_zero, List.set_cons_succ]
      refine hTakeS (i := 23) (k := 56) (v := .bool true) rfl rfl (by kernel_rfl) (by kernel_rfl) (by kernel_rfl) (fun _ _ _ h => h) (yieldsIf_val (by rfl) (by intro W; go_simp)) k105 ?_
      simp only [List.setIfInBounds_toArray, List.set_cons_zero, List.set_cons_succ]
      refine hTakeS (i := 24) (k := 57) (v := .bool true) rfl rfl (by kernel_rfl) (by kernel_rfl) (by kernel_rfl) (fun _ _ _ h => h) (yieldsIf_val (by rfl) (by intro W; go_simp)) k105 ?_
      simp only [List.setIfInBounds_toArray, List.set_cons_zero, List.set_cons_succ]
      refine hTakeS (i := 25) (k := 58) (v := .bool true) rfl rfl (by kernel_rfl) (by kernel_rfl) (by kernel_rfl) (fun _ _ _ h => h) (yieldsIf_val (by rfl) (by intro W; go_simp)) k105 ?_
      simp only [List.setIfInBounds_toArray, List.set_cons_zero, List.set_cons_succ]
      refine hTakeS (i := 26) (k := 59) (v := .agg #[.int .i64 a.r.one, .int .i64 a.r.cls, .int .i64 a.r.two, .int .i64 a.r.id, .int .i64 a.steps, .int .i64 a.from_, .int .i64 a.port, .int .i64 a.at_]) rfl rfl (by kernel_rfl) (by kernel_rfl) (by kernel_rfl) (fun _ _ _ h => h) (.inl ⟨by rfl, fun W hW => loadOp _ _ rfl _ _ #[.int .i64 a.r.one, .int .i64 a.r.cls, .int .i64 a.r.two, .int .i64 a.r.id, .int .i64 a.steps, .int .i64 a.from_, .int .i64 a.port, .int .i64 a.at_] _ (range_whole hW.ba) Try.underlying25 rfl (by kernel_rfl) rfl⟩) k105 ?_
      simp only [List.setIfInBounds_toArray, List.set_cons_zero, List.set_cons_succ]
      refine hTakeS (i := 27) (k := 60) (v := .agg #[.int .i64 c.r.one, .int .i64 c.r.cls, .int .i64 c.r.two, .int .i64 c.r.id, .int .i64 c.steps, .int .i64 c.from_, .int .i64 c.port, .int .i64 c.at_]) rfl rfl (by kernel_rfl) (by kernel_rfl) (by kernel_rfl) (fun _ _ _ h => h) (.inl ⟨by rfl, fun W hW => loadOp _ _ rfl _ _ #[.int .i64 c.r.one, .int .i64 c.r.cls, .int .i64 c.r.two, .int .i64 c.r.id, .int .i64 c.steps, .int .i64 c.from_, .int .i64 c.port, .int .i64 c.at_] _ (range_whole hW.bc) Try.underlying25 rfl (by kernel_rfl) rfl⟩) k105 ?_
      simp only [List.setIfInBounds_toArray, List.set_cons_zero, List.set_cons_succ]
      refine hCall (i := 28) (k := 61) (by kernel_rfl) rfl rfl (by rfl) 14 #[.agg #[.int .i64 a.r.one, .int .i64 a.r.cls, .int .i64 a.r.two, .int .i64 a.r.id, .int .i64 a.steps, .int .i64 a.from_, .int .i64 a.port, .int .i64 a.at_], .agg #[.int .i64 c.r.one, .int .i64 c.r.cls, .int .i64 c.r.two, .int .i64 c.r.id, .int .i64 c.steps, .int .i64 c.from_, .int .i64 c.port, .int .i64 c.at_]] (by intro W; go_simp) (.int .i64 t) (fun W hW => (HVac.out W).mono fun e W1 hh => ⟨hh.1, hW.below hh.2⟩) k105 (fun V106 k106 => ?_)
      simp only [List.setIfInBounds_toArray, List.set_cons_zero, List.set_cons_succ]
      refine hTakeS (i := 29) (k := 62) (v := .bool false) rfl rfl (by kernel_rfl) (by kernel_rfl) (by kernel_rfl) (fun _ _ _ h => h) (yieldsIf_val (by rfl) (by intro W; go_simp)) k106 ?_
      simp only [List.setIfInBounds_toArray, List.set_cons_zero, List.set_cons_succ]
      refine hTakeS (i := 30) (k := 63) (v := .bool false) rfl rfl (by kernel_rfl) (by kernel_rfl) (by kernel_rfl) (fun _ _ _ h => h) (yieldsIf_val (by rfl) (by intro W; go_simp)) k106 ?_
      simp only [List.setIfInBounds_toArray, List.set_cons_zero, List.set_cons_succ]
      refine hTakeS (i := 31) (k := 64) (v := .bool true) rfl rfl (by kernel_rfl) (by kernel_rfl) (by kernel_rfl) (fun _ _ _ h => h) (yieldsIf_val (by rfl) (by intro W; go_simp)) k106 ?_
      simp only [List.setIfInBounds_toArray, List.set_cons_zero, List.set_cons_succ]
      refine hTakeS (i := 32) (k := 65) (v := .bool true) rfl rfl (by kernel_rfl) (by kernel_rfl) (by kernel_rfl) (fun _ _ _ h => h) (yieldsIf_val (by rfl) (by intro W; go_simp)) k106 ?_
      simp only [List.setIfInBounds_toArray, List.set_cons_zero, List.set_cons_succ]
      refine hTakeS (i := 33) (k := 6) (v := .bool true) rfl rfl (by kernel_rfl) (by kernel_rfl) (by kernel_rfl) (fun _ _ _ h => h) (yieldsIf_val (by rfl) (by intro W; go_simp)) k106 ?_
      simp only [List.setIfInBounds_toArray, List.set_cons_zero, List.set_cons_succ]
      refine wpAnyH_done (by kernel_rfl) ?_ _
      have H3 := Lib.hid k106
      clear h0
      go_wp2_with fail
      go_ret
      exact ⟨rfl, H3.out.bel⟩
    · have hu1 : decide (u < 0) = false := decide_eq_false (by omega)
      refine wp_region_held_drew (S := TB3 a b c w) (by kernel_rfl) h0 (fun h0 => ?_)
      refine hTakeS (i := 0) (k := 33) (v := .agg #[.int .i64 a.r.one, .int .i64 a.r.cls, .int .i64 a.r.two, .int .i64 a.r.id, .int .i64 a.steps, .int .i64 a.from_, .int .i64 a.port, .int .i64 a.at_]) rfl rfl (by kernel_rfl) (by kernel_rfl) (by kernel_rfl) (fun _ _ _ h => h) (.inl ⟨by rfl, fun W hW => loadOp _ _ rfl _ _ #[.int .i64 a.r.one, .int .i64 a.r.cls, .int .i64 a.r.two, .int .i64 a.r.id, .int .i64 a.steps, .int .i64 a.from_, .int .i64 a.port, .int .i64 a.at_] _ (range_whole hW.ba) Try.underlying25 rfl (by kernel_rfl) rfl⟩) h0 ?_
      simp only [List.setIfInBounds_toArray, List.set_cons_zero, List.set_cons_succ]
      refine hTakeS (i := 1) (k := 34) (v := .agg #[.int .i64 a.r.one, .int .i64 a.r.cls, .int .i64 a.r.two, .int .i64 a.r.id, .int .i64 a.steps, .int .i64 a.from_, .int .i64 a.port, .int .i64 a.at_]) rfl rfl (by kernel_rfl) (by kernel_rfl) (by kernel_rfl) (fun _ _ _ h => h) (.inl ⟨by rfl, fun W hW => loadOp _ _ rfl _ _ #[.int .i64 a.r.one, .int .i64 a.r.cls, .int .i64 a.r.two, .int .i64 a.r.id, .int .i64 a.steps, .int .i64 a.from_, .int .i64 a.port, .int .i64 a.at_] _ (range_whole hW.ba) Try.underlying25 rfl (by kernel_rfl) rfl⟩) h0 ?_
      simp only [List.setIfInBounds_toArray, List.set_cons_zero, List.set_cons_succ]
      refine hCall (i := 2) (k := 35) (by kernel_rfl) rfl rfl (by rfl) 14 #[.agg #[.int .i64 a.r.one, .int .i64 a.r.cls, .int .i64 a.r.two, .int .i64 a.r.id, .int .i64 a.steps, .int .i64 a.from_, .int .i64 a.port, .int .i64 a.at_], .agg #[.int .i64 a.r.one, .int .i64 a.r.cls, .int .i64 a.r.two, .int .i64 a.r.id, .int .i64 a.steps, .int .i64 a.from_, .int .i64 a.port, .int .i64 a.at_]] (by intro W; go_simp) (.int .i64 0) (fun W hW => (HVaa.out W).mono fun e W1 hh => ⟨hh.1, hW.below hh.2⟩) h0 (fun V101 k101 => ?_)
      simp only [List.setIfInBounds_toArray, List.set_cons_zero, List.set_cons_succ]
      refine hTakeS (i := 3) (k := 36) (v := .bool true) rfl rfl (by kernel_rfl) (by kernel_rfl) (by kernel_rfl) (fun _ _ _ h => h) (yieldsIf_val (by rfl) (by intro W; go_simp)) k101 ?_
      simp only [List.setIfInBounds_toArray, List.set_cons_zero, List.set_cons_succ]
      refine hTakeS (i := 4) (k := 37) (v := .bool true) rfl rfl (by kernel_rfl) (by kernel_rfl) (by kernel_rfl) (fun _ _ _ h => h) (yieldsIf_val (by rfl) (by intro W; go_simp)) k101 ?_
      simp only [List.setIfInBounds_toArray, List.set_cons_zero, List.set_cons_succ]
      refine hTakeS (i := 5) (k := 38) (v := .agg #[.int .i64 a.r.one, .int .i64 a.r.cls, .int .i64 a.r.two, .int .i64 a.r.id, .int .i64 a.steps, .int .i64 a.from_, .int .i64 a.port, .int .i64 a.at_]) rfl rfl (by kernel_rfl) (by kernel_rfl) (by kernel_rfl) (fun _ _ _ h => h) (.inl ⟨by rfl, fun W hW => loadOp _ _ rfl _ _ #[.int .i64 a.r.one, .int .i64 a.r.cls, .int .i64 a.r.two, .int .i64 a.r.id, .int .i64 a.steps, .int .i64 a.from_, .int .i64 a.port, .int .i64 a.at_] _ (range_whole hW.ba) Try.underlying25 rfl (by kernel_rfl) rfl⟩) k101 ?_
      simp only [List.setIfInBounds_toArray, List.set_cons_zero, List.set_cons_succ]
      refine hTakeS (i := 6) (k := 39) (v := .agg #[.int .i64 b.r.one, .int .i64 b.r.cls, .int .i64 b.r.two, .int .i64 b.r.id, .int .i64 b.steps, .int .i64 b.from_, .int .i64 b.port, .int .i64 b.at_]) rfl rfl (by kernel_rfl) (by kernel_rfl) (by kernel_rfl) (fun _ _ _ h => h) (.inl ⟨by rfl, fun W hW => loadOp _ _ rfl _ _ #[.int .i64 b.r.one, .int .i64 b.r.cls, .int .i64 b.r.two, .int .i64 b.r.id, .int .i64 b.steps, .int .i64 b.from_, .int .i64 b.port, .int .i64 b.at_] _ (range_whole hW.bb) Try.underlying25 rfl (by kernel_rfl) rfl⟩) k101 ?_
      simp only [List.setIfInBounds_toArray, List.set_cons_zero, List.set_cons_succ]
      refine hTakeS (i := 8) (k := 41) (v := .agg #[.int .i64 b.r.one, .int .i64 b.r.cls, .int .i64 b.r.two, .int .i64 b.r.id, .int .i64 b.steps, .int .i64 b.from_, .int .i64 b.port, .int .i64 b.at_]) rfl rfl (by kernel_rfl) (by kernel_rfl) (by kernel_rfl) (fun _ _ _ h => h) (.inl ⟨by rfl, fun W hW => loadOp _ _ rfl _ _ #[.int .i64 b.r.one, .int .i64 b.r.cls, .int .i64 b.r.two, .int .i64 b.r.id, .int .i64 b.steps, .int .i64 b.from_, .int .i64 b.port, .int .i64 b.at_] _ (range_whole hW.bb) Try.underlying25 rfl (by kernel_rfl) rfl⟩) k101 ?_
      simp only [List.setIfInBounds_toArray, List.set_cons_zero, List.set_cons_succ]
      refine hTakeS (i := 9) (k := 42) (v := .agg #[.int .i64 a.r.one, .int .i64 a.r.cls, .int .i64 a.r.two, .int .i64 a.r.id, .int .i64 a.steps, .int .i64 a.from_, .int .i64 a.port, .int .i64 a.at_]) rfl rfl (by kernel_rfl) (by kernel_rfl) (by kernel_rfl) (fun _ _ _ h => h) (.inl ⟨by rfl, fun W hW => loadOp _ _ rfl _ _ #[.int .i64 a.r.one, .int .i64 a.r.cls, .int .i64 a.r.two, .int .i64 a.r.id, .int .i64 a.steps, .int .i64 a.from_, .int .i64 a.port, .int .i64 a.at_] _ (range_whole hW.ba) Try.underlying25 rfl (by kernel_rfl) rfl⟩) k101 ?_
      simp only [List.setIfInBounds_toArray, List.set_cons_zero, List.set_cons_succ]
      refine hCall (i := 7) (k := 40) (by kernel_rfl) rfl rfl (by rfl) 14 #[.agg #[.int .i64 a.r.one, .int .i64 a.r.cls, .int .i64 a.r.two, .int .i64 a.r.id, .int .i64 a.steps, .int .i64 a.from_, .int .i64 a.port, .int .i64 a.at_], .agg #[.int .i64 b.r.one, .int .i64 b.r.cls, .int .i64 b.r.two, .int .i64 b.r.id, .int .i64 b.steps, .int .i64 b.from_, .int .i64 b.port, .int .i64 b.at_]] (by intro W; go_simp) (.int .i64 x) (fun W hW => (HVab.out W).mono fun e W1 hh => ⟨hh.1, hW.below hh.2⟩) k101 (fun V102 k102 => ?_)
      simp only [List.setIfInBounds_toArray, List.set_cons_zero, List.set_cons_succ]
      refine hCall (i := 10) (k := 43) (by kernel_rfl) rfl rfl (by rfl) 14 #[.agg #[.int .i64 b.r.one, .int .i64 b.r.cls, .int .i64 b.r.two, .int .i64 b.r.id, .int .i64 b.steps, .int .i64 b.from_, .int .i64 b.port, .int .i64 b.at_], .agg #[.int .i64 a.r.one, .int .i64 a.r.cls, .int .i64 a.r.two, .int .i64 a.r.id, .int .i64 a.steps, .int .i64 a.from_, .int .i64 a.port, .int .i64 a.at_]] (by intro W; go_simp) (.int .i64 y) (fun W hW => (HVba.out W).mono fun e W1 hh => ⟨hh.1, hW.below hh.2⟩) k102 (fun V103 k103 => ?_)
      simp only [List.setIfInBounds_toArray, List.set_cons_zero, List.set_cons_succ]
      refine hTakeS (i := 11) (k := 44) (v := .int .i64 x) rfl rfl (by kernel_rfl) (by kernel_rfl) (by kernel_rfl) (fun _ _ _ h => h) (yieldsIf_val (by rfl) (by intro W; go_simp)) k103 ?_
      simp only [List.setIfInBounds_toArray, List.set_cons_zero, List.set_cons_succ]
      refine hTakeS (i := 12) (k := 45) (v := .bool true) rfl rfl (by kernel_rfl) (by kernel_rfl) (by kernel_rfl) (fun _ _ _ h => h) (yieldsIf_val (by rfl) (by intro W; go_simp)) k103 ?_
      simp only [List.setIfInBounds_toArray, List.set_cons_zero, List.set_cons_succ]
      refine hTakeS (i := 13) (k := 46) (v := .bool true) rfl rfl (by kernel_rfl) (by kernel_rfl) (by kernel_rfl) (fun _ _ _ h => h) (yieldsIf_val (by rfl) (by intro W; go_simp)) k103 ?_
      simp only [List.setIfInBounds_toArray, List.set_cons_zero, List.set_cons_succ]
      refine hTakeS (i := 14) (k := 47) (v := .bool true) rfl rfl (by kernel_rfl) (by kernel_rfl) (by kernel_rfl) (fun _ _ _ h => h) (yieldsIf_val (by rfl) (by intro W; go_simp)) k103 ?_
      simp only [List.setIfInBounds_toArray, List.set_cons_zero, List.set_cons_succ]
      refine hTakeS (i := 15) (k := 48) (v := .agg #[.int .i64 a.r.one, .int .i64 a.r.cls, .int .i64 a.r.two, .int .i64 a.r.id, .int .i64 a.steps, .int .i64 a.from_, .int .i64 a.port, .int .i64 a.at_]) rfl rfl (by kernel_rfl) (by kernel_rfl) (by kernel_rfl) (fun _ _ _ h => h) (.inl ⟨by rfl, fun W hW => loadOp _ _ rfl _ _ #[.int .i64 a.r.one, .int .i64 a.r.cls, .int .i64 a.r.two, .int .i64 a.r.id, .int .i64 a.steps, .int .i64 a.from_, .int .i64 a.port, .int .i64 a.at_] _ (range_whole hW.ba) Try.underlying25 rfl (by kernel_rfl) rfl⟩) k103 ?_
      simp only [List.setIfInBounds_toArray, List.set_cons_zero, List.set_cons_succ]
      refine hTakeS (i := 16) (k := 49) (v := .agg #[.int .i64 b.r.one, .int .i64 b.r.cls, .int .i64 b.r.two, .int .i64 b.r.id, .int .i64 b.steps, .int .i64 b.from_, .int .i64 b.port, .int .i64 b.at_]) rfl rfl (by kernel_rfl) (by kernel_rfl) (by kernel_rfl) (fun _ _ _ h => h) (.inl ⟨by rfl, fun W hW => loadOp _ _ rfl _ _ #[.int .i64 b.r.one, .int .i64 b.r.cls, .int .i64 b.r.two, .int .i64 b.r.id, .int .i64 b.steps, .int .i64 b.from_, .int .i64 b.port, .int .i64 b.at_] _ (range_whole hW.bb) Try.underlying25 rfl (by kernel_rfl) rfl⟩) k103 ?_
      simp only [List.setIfInBounds_toArray, List.set_cons_zero, List.set_cons_succ]
      refine hCall (i := 17) (k := 50) (by kernel_rfl) rfl rfl (by rfl) 14 #[.agg #[.int .i64 a.r.one, .int .i64 a.r.cls, .int .i64 a.r.two, .int .i64 a.r.id, .int .i64 a.steps, .int .i64 a.from_, .int .i64 a.port, .int .i64 a.at_], .agg #[.int .i64 b.r.one, .int .i64 b.r.cls, .int .i64 b.r.two, .int .i64 b.r.id, .int .i64 b.steps, .int .i64 b.from_, .int .i64 b.port, .int .i64 b.at_]] (by intro W; go_simp) (.int .i64 x) (fun W hW => (HVab.out W).mono fun e W1 hh => ⟨hh.1, hW.below hh.2⟩) k103 (fun V104 k104 => ?_)
      simp only [List.setIfInBounds_toArray, List.set_cons_zero, List.set_cons_succ]
      refine hTakeS (i := 18) (k := 51) (v := .bool true) rfl rfl (by kernel_rfl) (by kernel_rfl) (by kernel_rfl) (fun _ _ _ h => h) (yieldsIf_val (by rfl) (by intro W; go_simp)) k104 ?_
      simp only [List.setIfInBounds_toArray, List.set_cons_zero, List.set_cons_succ]
      refine hTakeS (i := 19) (k := 52) (v := .bool true) rfl rfl (by kernel_rfl) (by kernel_rfl) (by kernel_rfl) (fun _ _ _ h => h) (yieldsIf_val (by rfl) (by intro W; go_simp)) k104 ?_
      simp only [List.setIfInBounds_toArray, List.set_cons_zero, List.set_cons_succ]
      refine hTakeS (i := 20) (k := 53) (v := .agg #[.int .i64 b.r.one, .int .i64 b.r.cls, .int .i64 b.r.two, .int .i64 b.r.id, .int .i64 b.steps, .int .i64 b.from_, .int .i64 b.port, .int .i64 b.at_]) rfl rfl (by kernel_rfl) (by kernel_rfl) (by kernel_rfl) (fun _ _ _ h => h) (.inl ⟨by rfl, fun W hW => loadOp _ _ rfl _ _ #[.int .i64 b.r.one, .int .i64 b.r.cls, .int .i64 b.r.two, .int .i64 b.r.id, .int .i64 b.steps, .int .i64 b.from_, .int .i64 b.port, .int .i64 b.at_] _ (range_whole hW.bb) Try.underlying25 rfl (by kernel_rfl) rfl⟩) k104 ?_
      simp only [List.setIfInBounds_toArray, List.set_cons_zero, List.set_cons_succ]
      refine hTakeS (i := 21) (k := 54) (v := .agg #[.int .i64 c.r.one, .int .i64 c.r.cls, .int .i64 c.r.two, .int .i64 c.r.id, .int .i64 c.steps, .int .i64 c.from_, .int .i64 c.port, .int .i64 c.at_]) rfl rfl (by kernel_rfl) (by kernel_rfl) (by kernel_rfl) (fun _ _ _ h => h) (.inl ⟨by rfl, fun W hW => loadOp _ _ rfl _ _ #[.int .i64 c.r.one, .int .i64 c.r.cls, .int .i64 c.r.two, .int .i64 c.r.id, .int .i64 c.steps, .int .i64 c.from_, .int .i64 c.port, .int .i64 c.at_] _ (range_whole hW.bc) Try.underlying25 rfl (by kernel_rfl) rfl⟩) k104 ?_
      simp only [List.setIfInBounds_toArray, List.set_cons_zero, List.set_cons_succ]
      refine hCall (i := 22) (k := 55) (by kernel_rfl) rfl rfl (by rfl) 14 #[.agg #[.int .i64 b.r.one, .int .i64 b.r.cls, .int .i64 b.r.two, .int .i64 b.r.id, .int .i64 b.steps, .int .i64 b.from_, .int .i64 b.port, .int .i64 b.at_], .agg #[.int .i64 c.r.one, .int .i64 c.r.cls, .int .i64 c.r.two, .int .i64 c.r.id, .int .i64 c.steps, .int .i64 c.from_, .int .i64 c.port, .int .i64 c.at_]] (by intro W; go_simp) (.int .i64 u) (fun W hW => (HVbc.out W).mono fun e W1 hh => ⟨hh.1, hW.below hh.2⟩) k104 (fun V105 k105 => ?_)
      simp only [List.setIfInBounds_toArray, List.set_cons_zero, List.set_cons_succ]
      refine hTakeS (i := 23) (k := 56) (v := .bool false) rfl rfl (by kernel_rfl) (by kernel_rfl) (by kernel_rfl) (fun _ _ _ h => h) (yieldsIf_val (by rfl) (by intro W; go_simp)) k105 ?_
      simp only [List.setIfInBounds_toArray, List.set_cons_zero, List.set_cons_succ]
      refine hTakeS (i := 24) (k := 57) (v := .bool false) rfl rfl (by kernel_rfl) (by kernel_rfl) (by kernel_rfl) (fun _ _ _ h => h) (yieldsIf_val (by rfl) (by intro W; go_simp)) k105 ?_
      simp only [List.setIfInBounds_toArray, List.set_cons_zero, List.set_cons_succ]
      refine hTakeS (i := 25) (k := 58) (v := .bool false) rfl rfl (by kernel_rfl) (by kernel_rfl) (by kernel_rfl) (fun _ _ _ h => h) (yieldsIf_val (by rfl) (by intro W; go_simp)) k105 ?_
      simp only [List.setIfInBounds_toArray, List.set_cons_zero, List.set_cons_succ]
      refine hTakeS (i := 26) (k := 59) (v := undef) rfl rfl (by kernel_rfl) (by kernel_rfl) (by kernel_rfl) (fun _ _ _ h => h) (yieldsIf_skip (by rfl)) k105 ?_
      simp only [List.setIfInBounds_toArray, List.set_cons_zero, List.set_cons_succ]
      refine hTakeS (i := 27) (k := 60) (v := undef) rfl rfl (by kernel_rfl) (by kernel_rfl) (by kernel_rfl) (fun _ _ _ h => h) (yieldsIf_skip (by rfl)) k105 ?_
      simp only [List.setIfInBounds_toArray, List.set_cons_zero, List.set_cons_succ]
      refine hTakeS (i := 28) (k := 61) (v := undef) rfl rfl (by kernel_rfl) (by kernel_rfl) (by kernel_rfl) (fun _ _ _ h => h) (yieldsIf_skip (by rfl)) k105 ?_
      simp only [List.setIfInBounds_toArray, List.set_cons_zero, List.set_cons_succ]
      refine hTakeS (i := 29) (k := 62) (v := undef) rfl rfl (by kernel_rfl) (by kernel_rfl) (by kernel_rfl) (fun _ _ _ h => h) (yieldsIf_skip (by rfl)) k105 ?_
      simp only [List.setIfInBounds_toArray, List.set_cons_zero, List.set_cons_succ]
      refine hTakeS (i := 30) (k := 63) (v := .bool false) rfl rfl (by kernel_rfl) (by kernel_rfl) (by kernel_rfl) (fun _ _ _ h => h) (yieldsIf_val (by rfl) (by intro W; go_simp)) k105 ?_
      simp only [List.setIfInBounds_toArray, List.set_cons_zero, List.set_cons_succ]
      refine hTakeS (i := 31) (k := 64) (v := .bool true) rfl rfl (by kernel_rfl) (by kernel_rfl) (by kernel_rfl) (fun _ _ _ h => h) (yieldsIf_val (by rfl) (by intro W; go_simp)) k105 ?_
      simp only [List.setIfInBounds_toArray, List.set_cons_zero, List.set_cons_succ]
      refine hTakeS (i := 32) (k := 65) (v := .bool true) rfl rfl (by kernel_rfl) (by kernel_rfl) (by kernel_rfl) (fun _ _ _ h => h) (yieldsIf_val (by rfl) (by intro W; go_simp)) k105 ?_
      simp only [List.setIfInBounds_toArray, List.set_cons_zero, List.set_cons_succ]
      refine hTakeS (i := 33) (k := 6) (v := .bool true) rfl rfl (by kernel_rfl) (by kernel_rfl) (by kernel_rfl) (fun _ _ _ h => h) (yieldsIf_val (by rfl) (by intro W; go_simp)) k105 ?_
      simp only [List.setIfInBounds_toArray, List.set_cons_zero, List.set_cons_succ]
      refine wpAnyH_done (by kernel_rfl) ?_ _
      have H3 := Lib.hid k105
      clear h0
      go_wp2_with fail
      go_ret
      exact ⟨rfl, H3.out.bel⟩
  · have hx1 : decide (x < 0) = false := decide_eq_false (by omega)
    refine wp_region_held_drew (S := TB3 a b c w) (by kernel_rfl) h0 (fun h0 => ?_)
    refine hTakeS (i := 0) (k := 33) (v := .agg #[.int .i64 a.r.one, .int .i64 a.r.cls, .int .i64 a.r.two, .int .i64 a.r.id, .int .i64 a.steps, .int .i64 a.from_, .int .i64 a.port, .int .i64 a.at_]) rfl rfl (by kernel_rfl) (by kernel_rfl) (by kernel_rfl) (fun _ _ _ h => h) (.inl ⟨by rfl, fun W hW => loadOp _ _ rfl _ _ #[.int .i64 a.r.one, .int .i64 a.r.cls, .int .i64 a.r.two, .int .i64 a.r.id, .int .i64 a.steps, .int .i64 a.from_, .int .i64 a.port, .int .i64 a.at_] _ (range_whole hW.ba) Try.underlying25 rfl (by kernel_rfl) rfl⟩) h0 ?_
    simp only [List.setIfInBounds_toArray, List.set_cons_zero, List.set_cons_succ]
    refine hTakeS (i := 1) (k := 34) (v := .agg #[.int .i64 a.r.one, .int .i64 a.r.cls, .int .i64 a.r.two, .int .i64 a.r.id, .int .i64 a.steps, .int .i64 a.from_, .int .i64 a.port, .int .i64 a.at_]) rfl rfl (by kernel_rfl) (by kernel_rfl) (by kernel_rfl) (fun _ _ _ h => h) (.inl ⟨by rfl, fun W hW => loadOp _ _ rfl _ _ #[.int .i64 a.r.one, .int .i64 a.r.cls, .int .i64 a.r.two, .int .i64 a.r.id, .int .i64 a.steps, .int .i64 a.from_, .int .i64 a.port, .int .i64 a.at_] _ (range_whole hW.ba) Try.underlying25 rfl (by kernel_rfl) rfl⟩) h0 ?_
    simp only [List.setIfInBounds_toArray, List.set_cons_zero, List.set_cons_succ]
    refine hCall (i := 2) (k := 35) (by kernel_rfl) rfl rfl (by rfl) 14 #[.agg #[.int .i64 a.r.one, .int .i64 a.r.cls, .int .i64 a.r.two, .int .i64 a.r.id, .int .i64 a.steps, .int .i64 a.from_, .int .i64 a.port, .int .i64 a.at_], .agg #[.int .i64 a.r.one, .int .i64 a.r.cls, .int .i64 a.r.two, .int .i64 a.r.id, .int .i64 a.steps, .int .i64 a.from_, .int .i64 a.port, .int .i64 a.at_]] (by intro W; go_simp) (.int .i64 0) (fun W hW => (HVaa.out W).mono fun e W1 hh => ⟨hh.1, hW.below hh.2⟩) h0 (fun V101 k101 => ?_)
    simp only [List.setIfInBounds_toArray, List.set_cons_zero, List.set_cons_succ]
    refine hTakeS (i := 3) (k := 36) (v := .bool true) rfl rfl (by kernel_rfl) (by kernel_rfl) (by kernel_rfl) (fun _ _ _ h => h) (yieldsIf_val (by rfl) (by intro W; go_simp)) k101 ?_
    simp only [List.setIfInBounds_toArray, List.set_cons_zero, List.set_cons_succ]
    refine hTakeS (i := 4) (k := 37) (v := .bool true) rfl rfl (by kernel_rfl) (by kernel_rfl) (by kernel_rfl) (fun _ _ _ h => h) (yieldsIf_val (by rfl) (by intro W; go_simp)) k101 ?_
    simp only [List.setIfInBounds_toArray, List.set_cons_zero, List.set_cons_succ]
    refine hTakeS (i := 5) (k := 38) (v := .agg #[.int .i64 a.r.one, .int .i64 a.r.cls, .int .i64 a.r.two, .int .i64 a.r.id, .int .i64 a.steps, .int .i64 a.from_, .int .i64 a.port, .int .i64 a.at_]) rfl rfl (by kernel_rfl) (by kernel_rfl) (by kernel_rfl) (fun _ _ _ h => h) (.inl ⟨by rfl, fun W hW => loadOp _ _ rfl _ _ #[.int .i64 a.r.one, .int .i64 a.r.cls, .int .i64 a.r.two, .int .i64 a.r.id, .int .i64 a.steps, .int .i64 a.from_, .int .i64 a.port, .int .i64 a.at_] _ (range_whole hW.ba) Try.underlying25 rfl (by kernel_rfl) rfl⟩) k101 ?_
    simp only [List.setIfInBounds_toArray, List.set_cons_zero, List.set_cons_succ]
    refine hTakeS (i := 6) (k := 39) (v := .agg #[.int .i64 b.r.one, .int .i64 b.r.cls, .int .i64 b.r.two, .int .i64 b.r.id, .int .i64 b.steps, .int .i64 b.from_, .int .i64 b.port, .int .i64 b.at_]) rfl rfl (by kernel_rfl) (by kernel_rfl) (by kernel_rfl) (fun _ _ _ h => h) (.inl ⟨by rfl, fun W hW => loadOp _ _ rfl _ _ #[.int .i64 b.r.one, .int .i64 b.r.cls, .int .i64 b.r.two, .int .i64 b.r.id, .int .i64 b.steps, .int .i64 b.from_, .int .i64 b.port, .int .i64 b.at_] _ (range_whole hW.bb) Try.underlying25 rfl (by kernel_rfl) rfl⟩) k101 ?_
    simp only [List.setIfInBounds_toArray, List.set_cons_zero, List.set_cons_succ]
    refine hTakeS (i := 8) (k := 41) (v := .agg #[.int .i64 b.r.one, .int .i64 b.r.cls, .int .i64 b.r.two, .int .i64 b.r.id, .int .i64 b.steps, .int .i64 b.from_, .int .i64 b.port, .int .i64 b.at_]) rfl rfl (by kernel_rfl) (by kernel_rfl) (by kernel_rfl) (fun _ _ _ h => h) (.inl ⟨by rfl, fun W hW => loadOp _ _ rfl _ _ #[.int .i64 b.r.one, .int .i64 b.r.cls, .int .i64 b.r.two, .int .i64 b.r.id, .int .i64 b.steps, .int .i64 b.from_, .int .i64 b.port, .int .i64 b.at_] _ (range_whole hW.bb) Try.underlying25 rfl (by kernel_rfl) rfl⟩) k101 ?_
    simp only [List.setIfInBounds_toArray, List.set_cons_zero, List.set_cons_succ]
    refine hTakeS (i := 9) (k := 42) (v := .agg #[.int .i64 a.r.one, .int .i64 a.r.cls, .int .i64 a.r.two, .int .i64 a.r.id, .int .i64 a.steps, .int .i64 a.from_, .int .i64 a.port, .int .i64 a.at_]) rfl rfl (by kernel_rfl) (by kernel_rfl) (by kernel_rfl) (fun _ _ _ h => h) (.inl ⟨by rfl, fun W hW => loadOp _ _ rfl _ _ #[.int .i64 a.r.one, .int .i64 a.r.cls, .int .i64 a.r.two, .int .i64 a.r.id, .int .i64 a.steps, .int .i64 a.from_, .int .i64 a.port, .int .i64 a.at_] _ (range_whole hW.ba) Try.underlying25 rfl (by kernel_rfl) rfl⟩) k101 ?_
    simp only [List.setIfInBounds_toArray, List.set_cons_zero, List.set_cons_succ]
    refine hCall (i := 7) (k := 40) (by kernel_rfl) rfl rfl (by rfl) 14 #[.agg #[.int .i64 a.r.one, .int .i64 a.r.cls, .int .i64 a.r.two, .int .i64 a.r.id, .int .i64 a.steps, .int .i64 a.from_, .int .i64 a.port, .int .i64 a.at_], .agg #[.int .i64 b.r.one, .int .i64 b.r.cls, .int .i64 b.r.two, .int .i64 b.r.id, .int .i64 b.steps, .int .i64 b.from_, .int .i64 b.port, .int .i64 b.at_]] (by intro W; go_simp) (.int .i64 x) (fun W hW => (HVab.out W).mono fun e W1 hh => ⟨hh.1, hW.below hh.2⟩) k101 (fun V102 k102 => ?_)
    simp only [List.setIfInBounds_toArray, List.set_cons_zero, List.set_cons_succ]
    refine hCall (i := 10) (k := 43) (by kernel_rfl) rfl rfl (by rfl) 14 #[.agg #[.int .i64 b.r.one, .int .i64 b.r.cls, .int .i64 b.r.two, .int .i64 b.r.id, .int .i64 b.steps, .int .i64 b.from_, .int .i64 b.port, .int .i64 b.at_], .agg #[.int .i64 a.r.one, .int .i64 a.r.cls, .int .i64 a.r.two, .int .i64 a.r.id, .int .i64 a.steps, .int .i64 a.from_, .int .i64 a.port, .int .i64 a.at_]] (by intro W; go_simp) (.int .i64 y) (fun W hW => (HVba.out W).mono fun e W1 hh => ⟨hh.1, hW.below hh.2⟩) k102 (fun V103 k103 => ?_)
    simp only [List.setIfInBounds_toArray, List.set_cons_zero, List.set_cons_succ]
    refine hTakeS (i := 11) (k := 44) (v := .int .i64 x) rfl rfl (by kernel_rfl) (by kernel_rfl) (by kernel_rfl) (fun _ _ _ h => h) (yieldsIf_val (by rfl) (by intro W; go_simp)) k103 ?_
    simp only [List.setIfInBounds_toArray, List.set_cons_zero, List.set_cons_succ]
    refine hTakeS (i := 12) (k := 45) (v := .bool true) rfl rfl (by kernel_rfl) (by kernel_rfl) (by kernel_rfl) (fun _ _ _ h => h) (yieldsIf_val (by rfl) (by intro W; go_simp)) k103 ?_
    simp only [List.setIfInBounds_toArray, List.set_cons_zero, List.set_cons_succ]
    refine hTakeS (i := 13) (k := 46) (v := .bool true) rfl rfl (by kernel_rfl) (by kernel_rfl) (by kernel_rfl) (fun _ _ _ h => h) (yieldsIf_val (by rfl) (by intro W; go_simp)) k103 ?_
    simp only [List.setIfInBounds_toArray, List.set_cons_zero, List.set_cons_succ]
    refine hTakeS (i := 14) (k := 47) (v := .bool true) rfl rfl (by kernel_rfl) (by kernel_rfl) (by kernel_rfl) (fun _ _ _ h => h) (yieldsIf_val (by rfl) (by intro W; go_simp)) k103 ?_
    simp only [List.setIfInBounds_toArray, List.set_cons_zero, List.set_cons_succ]
    refine hTakeS (i := 15) (k := 48) (v := .agg #[.int .i64 a.r.one, .int .i64 a.r.cls, .int .i64 a.r.two, .int .i64 a.r.id, .int .i64 a.steps, .int .i64 a.from_, .int .i64 a.port, .int .i64 a.at_]) rfl rfl (by kernel_rfl) (by kernel_rfl) (by kernel_rfl) (fun _ _ _ h => h) (.inl ⟨by rfl, fun W hW => loadOp _ _ rfl _ _ #[.int .i64 a.r.one, .int .i64 a.r.cls, .int .i64 a.r.two, .int .i64 a.r.id, .int .i64 a.steps, .int .i64 a.from_, .int .i64 a.port, .int .i64 a.at_] _ (range_whole hW.ba) Try.underlying25 rfl (by kernel_rfl) rfl⟩) k103 ?_
    simp only [List.setIfInBounds_toArray, List.set_cons_zero, List.set_cons_succ]
    refine hTakeS (i := 16) (k := 49) (v := .agg #[.int .i64 b.r.one, .int .i64 b.r.cls, .int .i64 b.r.two, .int .i64 b.r.id, .int .i64 b.steps, .int .i64 b.from_, .int .i64 b.port, .int .i64 b.at_]) rfl rfl (by kernel_rfl) (by kernel_rfl) (by kernel_rfl) (fun _ _ _ h => h) (.inl ⟨by rfl, fun W hW => loadOp _ _ rfl _ _ #[.int .i64 b.r.one, .int .i64 b.r.cls, .int .i64 b.r.two, .int .i64 b.r.id, .int .i64 b.steps, .int .i64 b.from_, .int .i64 b.port, .int .i64 b.at_] _ (range_whole hW.bb) Try.underlying25 rfl (by kernel_rfl) rfl⟩) k103 ?_
    simp only [List.setIfInBounds_toArray, List.set_cons_zero, List.set_cons_succ]
    refine hCall (i := 17) (k := 50) (by kernel_rfl) rfl rfl (by rfl) 14 #[.agg #[.int .i64 a.r.one, .int .i64 a.r.cls, .int .i64 a.r.two, .int .i64 a.r.id, .int .i64 a.steps, .int .i64 a.from_, .int .i64 a.port, .int .i64 a.at_], .agg #[.int .i64 b.r.one, .int .i64 b.r.cls, .int .i64 b.r.two, .int .i64 b.r.id, .int .i64 b.steps, .int .i64 b.from_, .int .i64 b.port, .int .i64 b.at_]] (by intro W; go_simp) (.int .i64 x) (fun W hW => (HVab.out W).mono fun e W1 hh => ⟨hh.1, hW.below hh.2⟩) k103 (fun V104 k104 => ?_)
    simp only [List.setIfInBounds_toArray, List.set_cons_zero, List.set_cons_succ]
    refine hTakeS (i := 18) (k := 51) (v := .bool false) rfl rfl (by kernel_rfl) (by kernel_rfl) (by kernel_rfl) (fun _ _ _ h => h) (yieldsIf_val (by rfl) (by intro W; go_simp)) k104 ?_
    simp only [List.setIfInBounds_toArray, List.set_cons_zero, List.set_cons_succ]
    refine hTakeS (i := 19) (k := 52) (v := .bool false) rfl rfl (by kernel_rfl) (by kernel_rfl) (by kernel_rfl) (fun _ _ _ h => h) (yieldsIf_val (by rfl) (by intro W; go_simp)) k104 ?_
    simp only [List.setIfInBounds_toArray, List.set_cons_zero, List.set_cons_succ]
    refine hTakeS (i := 20) (k := 53) (v := undef) rfl rfl (by kernel_rfl) (by kernel_rfl) (by kernel_rfl) (fun _ _ _ h => h) (yieldsIf_skip (by rfl)) k104 ?_
    simp only [List.setIfInBounds_toArray, List.set_cons_zero, List.set_cons_succ]
    refine hTakeS (i := 21) (k := 54) (v := undef) rfl rfl (by kernel_rfl) (by kernel_rfl) (by kernel_rfl) (fun _ _ _ h => h) (yieldsIf_skip (by rfl)) k104 ?_
    simp only [List.setIfInBounds_toArray, List.set_cons_zero, List.set_cons_succ]
    refine hTakeS (i := 22) (k := 55) (v := undef) rfl rfl (by kernel_rfl) (by kernel_rfl) (by kernel_rfl) (fun _ _ _ h => h) (yieldsIf_skip (by rfl)) k104 ?_
    simp only [List.setIfInBounds_toArray, List.set_cons_zero, List.set_cons_succ]
    refine hTakeS (i := 23) (k := 56) (v := undef) rfl rfl (by kernel_rfl) (by kernel_rfl) (by kernel_rfl) (fun _ _ _ h => h) (yieldsIf_skip (by rfl)) k104 ?_
    simp only [List.setIfInBounds_toArray, List.set_cons_zero, List.set_cons_succ]
    refine hTakeS (i := 24) (k := 57) (v := .bool false) rfl rfl (by kernel_rfl) (by kernel_rfl) (by kernel_rfl) (fun _ _ _ h => h) (yieldsIf_val (by rfl) (by intro W; go_simp)) k104 ?_
    simp only [List.setIfInBounds_toArray, List.set_cons_zero, List.set_cons_succ]
    refine hTakeS (i := 25) (k := 58) (v := .bool false) rfl rfl (by kernel_rfl) (by kernel_rfl) (by kernel_rfl) (fun _ _ _ h => h) (yieldsIf_val (by rfl) (by intro W; go_simp)) k104 ?_
    simp only [List.setIfInBounds_toArray, List.set_cons_zero, List.set_cons_succ]
    refine hTakeS (i := 26) (k := 59) (v := undef) rfl rfl (by kernel_rfl) (by kernel_rfl) (by kernel_rfl) (fun _ _ _ h => h) (yieldsIf_skip (by rfl)) k104 ?_
    simp only [List.setIfInBounds_toArray, List.set_cons_zero, List.set_cons_succ]
    refine hTakeS (i := 27) (k := 60) (v := undef) rfl rfl (by kernel_rfl) (by kernel_rfl) (by kernel_rfl) (fun _ _ _ h => h) (yieldsIf_skip (by rfl)) k104 ?_
    simp only [List.setIfInBounds_toArray, List.set_cons_zero, List.set_cons_succ]
    refine hTakeS (i := 28) (k := 61) (v := undef) rfl rfl (by kernel_rfl) (by kernel_rfl) (by kernel_rfl) (fun _ _ _ h => h) (yieldsIf_skip (by rfl)) k104 ?_
    simp only [List.setIfInBounds_toArray, List.set_cons_zero, List.set_cons_succ]
    refine hTakeS (i := 29) (k := 62) (v := undef) rfl rfl (by kernel_rfl) (by kernel_rfl) (by kernel_rfl) (fun _ _ _ h => h) (yieldsIf_skip (by rfl)) k104 ?_
    simp only [List.setIfInBounds_toArray, List.set_cons_zero, List.set_cons_succ]
    refine hTakeS (i := 30) (k := 63) (v := .bool false) rfl rfl (by kernel_rfl) (by kernel_rfl) (by kernel_rfl) (fun _ _ _ h => h) (yieldsIf_val (by rfl) (by intro W; go_simp)) k104 ?_
    simp only [List.setIfInBounds_toArray, List.set_cons_zero, List.set_cons_succ]
    refine hTakeS (i := 31) (k := 64) (v := .bool true) rfl rfl (by kernel_rfl) (by kernel_rfl) (by kernel_rfl) (fun _ _ _ h => h) (yieldsIf_val (by rfl) (by intro W; go_simp)) k104 ?_
    simp only [List.setIfInBounds_toArray, List.set_cons_zero, List.set_cons_succ]
    refine hTakeS (i := 32) (k := 65) (v := .bool true) rfl rfl (by kernel_rfl) (by kernel_rfl) (by kernel_rfl) (fun _ _ _ h => h) (yieldsIf_val (by rfl) (by intro W; go_simp)) k104 ?_
    simp only [List.setIfInBounds_toArray, List.set_cons_zero, List.set_cons_succ]
    refine hTakeS (i := 33) (k := 6) (v := .bool true) rfl rfl (by kernel_rfl) (by kernel_rfl) (by kernel_rfl) (fun _ _ _ h => h) (yieldsIf_val (by rfl) (by intro W; go_simp)) k104 ?_
    simp only [List.setIfInBounds_toArray, List.set_cons_zero, List.set_cons_succ]
    refine wpAnyH_done (by kernel_rfl) ?_ _
    have H3 := Lib.hid k104
    clear h0
    go_wp2_with fail
    go_ret
    exact ⟨rfl, H3.out.bel⟩
theorem bestOrders_holds : Rows.BestOrdersSaid := bestOrders_of (fun a0 a1 a2 a3 a4 a5 a6 a7 b0 b1 b2 b3 b4 b5 b6 b7 c0 c1 c2 c3 c4 c5 c6 c7 w _ _ _ _ _ _ _ _ _ _ _ _ _ _ _ _ _ _ _ _ _ _ _ _ =>
  bestOrders_any ⟨⟨a0, a1, a2, a3⟩, a4, a5, a6, a7⟩ ⟨⟨b0, b1, b2, b3⟩, b4, b5, b6, b7⟩ ⟨⟨c0, c1, c2, c3⟩, c4, c5, c6, c7⟩ w)

end Go.Proofs.Ytihddpoaemhlnaa
