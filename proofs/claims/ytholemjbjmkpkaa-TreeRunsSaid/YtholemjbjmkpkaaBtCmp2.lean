/- Package best: Cmp of two clocks, of two vectors. -/
import Derived.Test.YtholemjbjmkpkaaBtCmp
import Derived.Deep.MidRow
namespace Go.Proofs.Ytholemjbjmkpkaa
open Go.RowKit Go.Joins

theorem hCall {ops : Array Oper} {Q : Exit → Act → World → Prop} {S : World → Prop} {fuel : Nat} {listed : Array Bool} {a : Act} {w : World} {i k : Nat} {o : Oper} (hr : Region.ready .any ops listed = [i]) (ho : ops[i]? = some o) (hd : o.dst = some k) (hw : Region.wanted o (yielded ops a.tmps) = true) (f : FuncId) (args : Array Value)
    (hx : ∀ W, (execOp a.eval o).run Try.prog W = .ok (.enter f args) W) (v : Value) (hc : ∀ W, S W → Calls Try.prog f args W fun e W' => e = .returned v ∧ S W') (hS : S w)
    (h : ∀ W', S W' → wpAnyH Try.prog .any ops Q S fuel (listed.setIfInBounds i true) { a with tmps := a.tmps.setIfInBounds k v } W') : wpAnyH Try.prog .any ops Q S (fuel + 1) listed a w := by
  refine wpAnyH_ready hr (by simp) (AllReadyH.cons ho (fun K hK => ?_) AllReadyH.nil)
  rw [if_pos hw]
  unfold Oper.wp
  rw [hx w]
  refine (hc w hS).mono fun e W' hh => ?_
  obtain ⟨rfl, hS'⟩ := hh
  exact hK _ _ hS' (fun hS'' => by rw [put_some k v _ hd]; exact h W' hS'')
/-- Two boxes side by side, in a world that came of w. -/
structure TwoB (t : TypeId) (x y : Array Value) (w W : World) : Prop where
  bx : W.heap[w.heap.size]? = some (.cells x t (0, 0))
  by_ : W.heap[w.heap.size + 1]? = some (.cells y t (0, 0))
  bel : Below w.heap.size w W
section
variable {t : TypeId} {x y : Array Value} {w W W' : World}
theorem TwoB.start (w : World) : TwoB t x y w ((w.alloc (.cells x t)).alloc (.cells y t)) := by
  refine ⟨?_, ?_, bAl (bAl (bRef w) _) _⟩
  · rw [(bAl (bRef (w.alloc (.cells x t))) (.cells y t)).block _ (by simp)]
    exact heap_alloc_new w _
  · have := heap_alloc_new (w.alloc (.cells x t)) (.cells y t)
    simpa using this
theorem TwoB.drew (h : TwoB t x y w W) : TwoB t x y w W.drew := ⟨h.bx, h.by_, h.bel.trans ⟨rfl, rfl, rfl, Nat.le_refl _, fun _ _ => rfl⟩⟩
theorem TwoB.below (h : TwoB t x y w W) (hb : Below W.heap.size W W') : TwoB t x y w W' := ⟨(hb.block _ (lt_of_heap h.bx)).trans h.bx, (hb.block _ (lt_of_heap h.by_)).trans h.by_, bTr h.bel hb⟩
theorem TwoB.cx (h : TwoB t x y w W) (k : Nat) : W.cell? ⟨w.heap.size, k, none⟩ = x[k]? := cell_of_row _ _ _ _ _ _ h.bx
theorem TwoB.cy (h : TwoB t x y w W) (k : Nat) : W.cell? ⟨w.heap.size + 1, k, none⟩ = y[k]? := cell_of_row _ _ _ _ _ _ h.by_
end
set_option maxRecDepth 20000 in
set_option maxHeartbeats 2000000 in
theorem pcmp_any (a b : Pri) (w : World) : Calls Try.prog 13 #[.agg (PC a), .agg (PC b)] w fun e w' => e = .returned (.int .i64 (a.cmp b)) ∧ Below w.heap.size w w' := by
  have HO := Lib.hid (Pri.cmp_or a b)
  generalize a.cmp b = z at *
  have HC_one := Lib.hid (compare_ret a.one b.one)
  generalize c1 a.one b.one = z_one at *
  have HC_cls := Lib.hid (compare_ret a.cls b.cls)
  generalize c1 a.cls b.cls = z_cls at *
  have HC_two := Lib.hid (compare_ret a.two b.two)
  generalize c1 a.two b.two = z_two at *
  have HC_id := Lib.hid (compare_ret a.id b.id)
  generalize c1 a.id b.id = z_id at *
  have HOr := Lib.hid (fun W => or_row [z_one, z_cls, z_two, z_id] #[.int .i64 z_one, .int .i64 z_cls, .int .i64 z_two, .int .i64 z_id] rfl 4 rfl (by decide) (by decide) W)
  rw [HO.out] at HOr
  have HT := Lib.hid (TwoB.start (t := 23) (x := PC a) (y := PC b) w)
  unfold PC at HT ⊢
  go_enter Try.func13, Try.ntmps13
  go_wp2_with fail
  generalize (w.alloc (.cells #[.int .i64 a.one, .int .i64 a.cls, .int .i64 a.two, .int .i64 a.id] 23)).alloc (.cells #[.int .i64 b.one, .int .i64 b.cls, .int .i64 b.two, .int .i64 b.id] 23) = W0 at *
  have h0 := HT.out.drew
  refine wp_region_held_drew (S := TwoB 23 #[.int .i64 a.one, .int .i64 a.cls, .int .i64 a.two, .int .i64 a.id] #[.int .i64 b.one, .int .i64 b.cls, .int .i64 b.two, .int .i64 b.id] w) (by kernel_rfl) h0 (fun h0 => ?_)
  refine hTakeS (i := 0) (k := 5) (v := .pointer (some ⟨w.heap.size, 0, none⟩)) rfl rfl (by kernel_rfl) (by kernel_rfl) (by kernel_rfl) (fun _ _ _ h => h) (yieldsIf_val (by rfl) (by intro W; go_simp)) h0 ?_
  simp only [List.setIfInBounds_toArray, List.set_cons_zero, List.set_cons_succ]
  refine hTakeS (i := 1) (k := 6) (v := .int .i64 a.one) rfl rfl (by kernel_rfl) (by kernel_rfl) (by kernel_rfl) (fun _ _ _ h => h) (.inl ⟨by rfl, fun W hW => by have c := hW.cx 0; simp only [List.getElem?_toArray, List.getElem?_cons_zero] at c; go_simp⟩) h0 ?_
  simp only [List.setIfInBounds_toArray, List.set_cons_zero, List.set_cons_succ]
  refine hTakeS (i := 2) (k := 7) (v := .pointer (some ⟨w.heap.size + 1, 0, none⟩)) rfl rfl (by kernel_rfl) (by kernel_rfl) (by kernel_rfl) (fun _ _ _ h => h) (yieldsIf_val (by rfl) (by intro W; go_simp)) h0 ?_
  simp only [List.setIfInBounds_toArray, List.set_cons_zero, List.set_cons_succ]
  refine hTakeS (i := 3) (k := 8) (v := .int .i64 b.one) rfl rfl (by kernel_rfl) (by kernel_rfl) (by kernel_rfl) (fun _ _ _ h => h) (.inl ⟨by rfl, fun W hW => by have c := hW.cy 0; simp only [List.getElem?_toArray, List.getElem?_cons_zero] at c; go_simp⟩) h0 ?_
  simp only [List.setIfInBounds_toArray, List.set_cons_zero, List.set_cons_succ]
  refine hTakeS (i := 5) (k := 10) (v := .pointer (some ⟨w.heap.size, 1, none⟩)) rfl rfl (by kernel_rfl) (by kernel_rfl) (by kernel_rfl) (fun _ _ _ h => h) (yieldsIf_val (by rfl) (by intro W; go_simp)) h0 ?_
  simp only [List.setIfInBounds_toArray, List.set_cons_zero, List.set_cons_succ]
  refine hTakeS (i := 6) (k := 11) (v := .int .i64 a.cls) rfl rfl (by kernel_rfl) (by kernel_rfl) (by kernel_rfl) (fun _ _ _ h => h) (.inl ⟨by rfl, fun W hW => by have c := hW.cx 1; simp only [List.getElem?_toArray, List.getElem?_cons_zero, List.getElem?_cons_succ] at c; go_simp⟩) h0 ?_
  simp only [List.setIfInBounds_toArray, List.set_cons_zero, List.set_cons_succ]
  refine hTakeS (i := 7) (k := 12) (v := .pointer (some ⟨w.heap.size + 1, 1, none⟩)) rfl rfl (by kernel_rfl) (by kernel_rfl) (by kernel_rfl) (fun _ _ _ h => h) (yieldsIf_val (by rfl) (by intro W; go_simp)) h0 ?_
  simp only [List.setIfInBounds_toArray, List.set_cons_zero, List.set_cons_succ]
  refine hTakeS (i := 8) (k := 13) (v := .int .i64 b.cls) rfl rfl (by kernel_rfl) (by kernel_rfl) (by kernel_rfl) (fun _ _ _ h => h) (.inl ⟨by rfl, fun W hW => by have c := hW.cy 1; simp only [List.getElem?_toArray, List.getElem?_cons_zero, List.getElem?_cons_succ] at c; go_simp⟩) h0 ?_
  simp only [List.setIfInBounds_toArray, List.set_cons_zero, List.set_cons_succ]
  refine hTakeS (i := 10) (k := 15) (v := .pointer (some ⟨w.heap.size, 2, none⟩)) rfl rfl (by kernel_rfl) (by kernel_rfl) (by kernel_rfl) (fun _ _ _ h => h) (yieldsIf_val (by rfl) (by intro W; go_simp)) h0 ?_
  simp only [List.setIfInBounds_toArray, List.set_cons_zero, List.set_cons_succ]
  refine hTakeS (i := 11) (k := 16) (v := .int .i64 a.two) rfl rfl (by kernel_rfl) (by kernel_rfl) (by kernel_rfl) (fun _ _ _ h => h) (.inl ⟨by rfl, fun W hW => by have c := hW.cx 2; simp only [List.getElem?_toArray, List.getElem?_cons_zero, List.getElem?_cons_succ] at c; go_simp⟩) h0 ?_
  simp only [List.setIfInBounds_toArray, List.set_cons_zero, List.set_cons_succ]
  refine hTakeS (i := 12) (k := 17) (v := .pointer (some ⟨w.heap.size + 1, 2, none⟩)) rfl rfl (by kernel_rfl) (by kernel_rfl) (by kernel_rfl) (fun _ _ _ h => h) (yieldsIf_val (by rfl) (by intro W; go_simp)) h0 ?_
  simp only [List.setIfInBounds_toArray, List.set_cons_zero, List.set_cons_succ]
  refine hTakeS (i := 13) (k := 18) (v := .int .i64 b.two) rfl rfl (by kernel_rfl) (by kernel_rfl) (by kernel_rfl) (fun _ _ _ h => h) (.inl ⟨by rfl, fun W hW => by have c := hW.cy 2; simp only [List.getElem?_toArray, List.getElem?_cons_zero, List.getElem?_cons_succ] at c; go_simp⟩) h0 ?_
  simp only [List.setIfInBounds_toArray, List.set_cons_zero, List.set_cons_succ]
  refine hTakeS (i := 15) (k := 20) (v := .pointer (some ⟨w.heap.size, 3, none⟩)) rfl rfl (by kernel_rfl) (by kernel_rfl) (by kernel_rfl) (fun _ _ _ h => h) (yieldsIf_val (by rfl) (by intro W; go_simp)) h0 ?_
  simp only [List.setIfInBounds_toArray, List.set_cons_zero, List.set_cons_succ]
  refine hTakeS (i := 16) (k := 21) (v := .int .i64 a.id) rfl rfl (by kernel_rfl) (by kernel_rfl) (by kernel_rfl) (fun _ _ _ h => h) (.inl ⟨by rfl, fun W hW => by have c := hW.cx 3; simp only [List.getElem?_toArray, List.getElem?_cons_zero, List.getElem?_cons_succ] at c; go_simp⟩) h0 ?_
  simp only [List.setIfInBounds_toArray, List.set_cons_zero, List.set_cons_succ]
  refine hTakeS (i := 17) (k := 22) (v := .pointer (some ⟨w.heap.size + 1, 3, none⟩)) rfl rfl (by kernel_rfl) (by kernel_rfl) (by kernel_rfl) (fun _ _ _ h => h) (yieldsIf_val (by rfl) (by intro W; go_simp)) h0 ?_
  simp only [List.setIfInBounds_toArray, List.set_cons_zero, List.set_cons_succ]
  refine hTakeS (i := 18) (k := 23) (v := .int .i64 b.id) rfl rfl (by kernel_rfl) (by kernel_rfl) (by kernel_rfl) (fun _ _ _ h => h) (.inl ⟨by rfl, fun W hW => by have c := hW.cy 3; simp only [List.getElem?_toArray, List.getElem?_cons_zero, List.getElem?_cons_succ] at c; go_simp⟩) h0 ?_
  simp only [List.setIfInBounds_toArray, List.set_cons_zero, List.set_cons_succ]
  refine hCall (i := 4) (k := 9) (by kernel_rfl) rfl rfl (by rfl) 32 #[.int .i64 a.one, .int .i64 b.one] (by intro W; go_simp) (.int .i64 z_one) (fun W hW => ((HC_one.out).go W).mono fun e W1 hh => ⟨hh.1, hh.2 ▸ hW⟩) h0 (fun W1 h1 => ?_)
  simp only [List.setIfInBounds_toArray, List.set_cons_zero, List.set_cons_succ]
  refine hCall (i := 9) (k := 14) (by kernel_rfl) rfl rfl (by rfl) 32 #[.int .i64 a.cls, .int .i64 b.cls] (by intro W; go_simp) (.int .i64 z_cls) (fun W hW => ((HC_cls.out).go W).mono fun e W1 hh => ⟨hh.1, hh.2 ▸ hW⟩) h1 (fun W2 h2 => ?_)
  simp only [List.setIfInBounds_toArray, List.set_cons_zero, List.set_cons_succ]
  refine hCall (i := 14) (k := 19) (by kernel_rfl) rfl rfl (by rfl) 32 #[.int .i64 a.two, .int .i64 b.two] (by intro W; go_simp) (.int .i64 z_two) (fun W hW => ((HC_two.out).go W).mono fun e W1 hh => ⟨hh.1, hh.2 ▸ hW⟩) h2 (fun W3 h3 => ?_)
  simp only [List.setIfInBounds_toArray, List.set_cons_zero, List.set_cons_succ]
  refine hCall (i := 19) (k := 24) (by kernel_rfl) rfl rfl (by rfl) 32 #[.int .i64 a.id, .int .i64 b.id] (by intro W; go_simp) (.int .i64 z_id) (fun W hW => ((HC_id.out).go W).mono fun e W1 hh => ⟨hh.1, hh.2 ▸ hW⟩) h3 (fun W4 h4 => ?_)
  simp only [List.setIfInBounds_toArray, List.set_cons_zero, List.set_cons_succ]
  refine hOneS (i := 20) (k := 25) (v := .slice (some ⟨W4.heap.size, 0, none⟩) 4 4) (by kernel_rfl) rfl rfl (by rfl) (bs4_op _ _ _ _ rfl rfl rfl rfl rfl _) (h4.below (bAl (bRef _) _)) ?_
  simp only [List.setIfInBounds_toArray, List.set_cons_zero, List.set_cons_succ]
  refine hCallR (i := 21) (k := 26) (by kernel_rfl) rfl rfl (by rfl) 31 #[.slice (some ⟨W4.heap.size, 0, none⟩) 4 4] (by go_simp) (HOr.out _) ?_
  rintro e W9 ⟨rfl, rfl⟩
  refine ⟨_, rfl, h4.below (bAl (bRef _) _), ?_⟩
  simp only [List.setIfInBounds_toArray, List.set_cons_zero, List.set_cons_succ]
  refine hTakeS (i := 22) (k := 4) (v := .int .i64 z) rfl rfl (by kernel_rfl) (by kernel_rfl) (by kernel_rfl) (fun _ _ _ h => h) (yieldsIf_val (by rfl) (by intro W; go_simp)) (h4.below (bAl (bRef _) _)) ?_
  simp only [List.setIfInBounds_toArray, List.set_cons_zero, List.set_cons_succ]
  refine wpAnyH_done (by kernel_rfl) ?_ _
  go_wp2_with fail
  go_ret
  exact ⟨rfl, (h4.below (bAl (bRef _) _)).bel⟩
/-- A part of a row, loaded. -/
theorem range_of_row {W : World} {b : Nat} {cs : Array Value} {t : TypeId} {fr : Nat × Nat} (hg : W.heap[b]? = some (.cells cs t fr)) (o : Nat) (l : List Value) (h : ∀ j v, l[j]? = some v → cs[o + j]? = some v) : W.rangeAt b o l := fun j v hj => (cell_of_row W b (o + j) _ _ _ hg).trans (h j v hj)
theorem loadP {a : Act} {o : Oper} {W : World} (x : Operand) (b f : Nat) (ho : o.op = .load 23 x) {p : Pri} (hc : W.rangeAt b f (PC p).toList) (hx : a.eval x = .pointer (some ⟨b, f, none⟩)) : (execOp a.eval o).run Try.prog W = .ok (.value (.agg (PC p))) W := by
  have k := run_loadAt_mid (P := Try.prog) W b f 23 (PC p).toList _ hc Try.underlying23 rfl (by kernel_rfl)
  unfold execOp
  simp only [ho, hx]
  rw [Sem.run_bind, k]
  rfl
theorem vhead (v : Vc) : ∀ j x, (PC v.r).toList[j]? = some x → (VC v)[0 + j]? = some x := by
  intro j x h
  rw [Nat.zero_add]
  match j, h with
  | 0, h => exact h
  | 1, h => exact h
  | 2, h => exact h
  | 3, h => exact h
  | n + 4, h => simp [PC] at h
set_option maxRecDepth 20000 in
set_option maxHeartbeats 2000000 in
theorem vcmp_any (a b : Vc) (w : World) : Calls Try.prog 14 #[.agg (VC a), .agg (VC b)] w fun e w' => e = .returned (.int .i64 (a.cmp b)) ∧ Below w.heap.size w w' := by
  have HO := Lib.hid (Vc.cmp_or a b)
  generalize a.cmp b = z at *
  have HP := Lib.hid (fun W => pcmp_any a.r b.r W)
  generalize a.r.cmp b.r = zr at *
  have HC_steps := Lib.hid (compare_ret a.steps b.steps)
  generalize c1 a.steps b.steps = z_steps at *
  have HC_from_ := Lib.hid (compare_ret a.from_ b.from_)
  generalize c1 a.from_ b.from_ = z_from_ at *
  have HC_port := Lib.hid (compare_ret a.port b.port)
  generalize c1 a.port b.port = z_port at *
  have HC_at_ := Lib.hid (compare_ret a.at_ b.at_)
  generalize c1 a.at_ b.at_ = z_at_ at *
  have HOr := Lib.hid (fun W => or_row [zr, z_steps, z_from_, z_port, z_at_] #[.int .i64 zr, .int .i64 z_steps, .int .i64 z_from_, .int .i64 z_port, .int .i64 z_at_] rfl 5 rfl (by decide) (by decide) W)
  rw [HO.out] at HOr
  have HT := Lib.hid (TwoB.start (t := 25) (x := VC a) (y := VC b) w)
  unfold VC at HT ⊢
  go_enter Try.func14, Try.ntmps14
  go_wp2_with fail
  generalize (w.alloc (.cells #[.int .i64 a.r.one, .int .i64 a.r.cls, .int .i64 a.r.two, .int .i64 a.r.id, .int .i64 a.steps, .int .i64 a.from_, .int .i64 a.port, .int .i64 a.at_] 25)).alloc (.cells #[.int .i64 b.r.one, .int .i64 b.r.cls, .int .i64 b.r.two, .int .i64 b.r.id, .int .i64 b.steps, .int .i64 b.from_, .int .i64 b.port, .int .i64 b.at_] 25) = W0 at *
  have h0 := HT.out.drew
  refine wp_region_held_drew (S := TwoB 25 #[.int .i64 a.r.one, .int .i64 a.r.cls, .int .i64 a.r.two, .int .i64 a.r.id, .int .i64 a.steps, .int .i64 a.from_, .int .i64 a.port, .int .i64 a.at_] #[.int .i64 b.r.one, .int .i64 b.r.cls, .int .i64 b.r.two, .int .i64 b.r.id, .int .i64 b.steps, .int .i64 b.from_, .int .i64 b.port, .int .i64 b.at_] w) (by kernel_rfl) h0 (fun h0 => ?_)
  refine hTakeS (i := 0) (k := 5) (v := .pointer (some ⟨w.heap.size, 0, none⟩)) rfl rfl (by kernel_rfl) (by kernel_rfl) (by kernel_rfl) (fun _ _ _ h => h) (yieldsIf_val (by rfl) (by intro W; go_simp)) h0 ?_
  simp only [List.setIfInBounds_toArray, List.set_cons_zero, List.set_cons_succ]
  refine hTakeS (i := 1) (k := 6) (v := .agg (PC a.r)) rfl rfl (by kernel_rfl) (by kernel_rfl) (by kernel_rfl) (fun _ _ _ h => h) (.inl ⟨by rfl, fun W hW => loadP _ _ _ rfl (range_of_row hW.bx 0 _ (vhead _)) rfl⟩) h0 ?_
  simp only [List.setIfInBounds_toArray, List.set_cons_zero, List.set_cons_succ]
  refine hTakeS (i := 2) (k := 7) (v := .pointer (some ⟨w.heap.size + 1, 0, none⟩)) rfl rfl (by kernel_rfl) (by kernel_rfl) (by kernel_rfl) (fun _ _ _ h => h) (yieldsIf_val (by rfl) (by intro W; go_simp)) h0 ?_
  simp only [List.setIfInBounds_toArray, List.set_cons_zero, List.set_cons_succ]
  refine hTakeS (i := 3) (k := 8) (v := .agg (PC b.r)) rfl rfl (by kernel_rfl) (by kernel_rfl) (by kernel_rfl) (fun _ _ _ h => h) (.inl ⟨by rfl, fun W hW => loadP _ _ _ rfl (range_of_row hW.by_ 0 _ (vhead _)) rfl⟩) h0 ?_
  simp only [List.setIfInBounds_toArray, List.set_cons_zero, List.set_cons_succ]
  refine hTakeS (i := 5) (k := 10) (v := .pointer (some ⟨w.heap.size, 4, none⟩)) rfl rfl (by kernel_rfl) (by kernel_rfl) (by kernel_rfl) (fun _ _ _ h => h) (yieldsIf_val (by rfl) (by intro W; go_simp)) h0 ?_
  simp only [List.setIfInBounds_toArray, List.set_cons_zero, List.set_cons_succ]
  refine hTakeS (i := 6) (k := 11) (v := .int .i64 a.steps) rfl rfl (by kernel_rfl) (by kernel_rfl) (by kernel_rfl) (fun _ _ _ h => h) (.inl ⟨by rfl, fun W hW => by have c := hW.cx 4; simp only [List.getElem?_toArray, List.getElem?_cons_zero, List.getElem?_cons_succ] at c; go_simp⟩) h0 ?_
  simp only [List.setIfInBounds_toArray, List.set_cons_zero, List.set_cons_succ]
  refine hTakeS (i := 7) (k := 12) (v := .pointer (some ⟨w.heap.size + 1, 4, none⟩)) rfl rfl (by kernel_rfl) (by kernel_rfl) (by kernel_rfl) (fun _ _ _ h => h) (yieldsIf_val (by rfl) (by intro W; go_simp)) h0 ?_
  simp only [List.setIfInBounds_toArray, List.set_cons_zero, List.set_cons_succ]
  refine hTakeS (i := 8) (k := 13) (v := .int .i64 b.steps) rfl rfl (by kernel_rfl) (by kernel_rfl) (by kernel_rfl) (fun _ _ _ h => h) (.inl ⟨by rfl, fun W hW => by have c := hW.cy 4; simp only [List.getElem?_toArray, List.getElem?_cons_zero, List.getElem?_cons_succ] at c; go_simp⟩) h0 ?_
  simp only [List.setIfInBounds_toArray, List.set_cons_zero, List.set_cons_succ]
  refine hTakeS (i := 10) (k := 15) (v := .pointer (some ⟨w.heap.size, 5, none⟩)) rfl rfl (by kernel_rfl) (by kernel_rfl) (by kernel_rfl) (fun _ _ _ h => h) (yieldsIf_val (by rfl) (by intro W; go_simp)) h0 ?_
  simp only [List.setIfInBounds_toArray, List.set_cons_zero, List.set_cons_succ]
  refine hTakeS (i := 11) (k := 16) (v := .int .i64 a.from_) rfl rfl (by kernel_rfl) (by kernel_rfl) (by kernel_rfl) (fun _ _ _ h => h) (.inl ⟨by rfl, fun W hW => by have c := hW.cx 5; simp only [List.getElem?_toArray, List.getElem?_cons_zero, List.getElem?_cons_succ] at c; go_simp⟩) h0 ?_
  simp only [List.setIfInBounds_toArray, List.set_cons_zero, List.set_cons_succ]
  refine hTakeS (i := 12) (k := 17) (v := .pointer (some ⟨w.heap.size + 1, 5, none⟩)) rfl rfl (by kernel_rfl) (by kernel_rfl) (by kernel_rfl) (fun _ _ _ h => h) (yieldsIf_val (by rfl) (by intro W; go_simp)) h0 ?_
  simp only [List.setIfInBounds_toArray, List.set_cons_zero, List.set_cons_succ]
  refine hTakeS (i := 13) (k := 18) (v := .int .i64 b.from_) rfl rfl (by kernel_rfl) (by kernel_rfl) (by kernel_rfl) (fun _ _ _ h => h) (.inl ⟨by rfl, fun W hW => by have c := hW.cy 5; simp only [List.getElem?_toArray, List.getElem?_cons_zero, List.getElem?_cons_succ] at c; go_simp⟩) h0 ?_
  simp only [List.setIfInBounds_toArray, List.set_cons_zero, List.set_cons_succ]
  refine hTakeS (i := 15) (k := 20) (v := .pointer (some ⟨w.heap.size, 6, none⟩)) rfl rfl (by kernel_rfl) (by kernel_rfl) (by kernel_rfl) (fun _ _ _ h => h) (yieldsIf_val (by rfl) (by intro W; go_simp)) h0 ?_
  simp only [List.setIfInBounds_toArray, List.set_cons_zero, List.set_cons_succ]
  refine hTakeS (i := 16) (k := 21) (v := .int .i64 a.port) rfl rfl (by kernel_rfl) (by kernel_rfl) (by kernel_rfl) (fun _ _ _ h => h) (.inl ⟨by rfl, fun W hW => by have c := hW.cx 6; simp only [List.getElem?_toArray, List.getElem?_cons_zero, List.getElem?_cons_succ] at c; go_simp⟩) h0 ?_
  simp only [List.setIfInBounds_toArray, List.set_cons_zero, List.set_cons_succ]
  refine hTakeS (i := 17) (k := 22) (v := .pointer (some ⟨w.heap.size + 1, 6, none⟩)) rfl rfl (by kernel_rfl) (by kernel_rfl) (by kernel_rfl) (fun _ _ _ h => h) (yieldsIf_val (by rfl) (by intro W; go_simp)) h0 ?_
  simp only [List.setIfInBounds_toArray, List.set_cons_zero, List.set_cons_succ]
  refine hTakeS (i := 18) (k := 23) (v := .int .i64 b.port) rfl rfl (by kernel_rfl) (by kernel_rfl) (by kernel_rfl) (fun _ _ _ h => h) (.inl ⟨by rfl, fun W hW => by have c := hW.cy 6; simp only [List.getElem?_toArray, List.getElem?_cons_zero, List.getElem?_cons_succ] at c; go_simp⟩) h0 ?_
  simp only [List.setIfInBounds_toArray, List.set_cons_zero, List.set_cons_succ]
  refine hTakeS (i := 20) (k := 25) (v := .pointer (some ⟨w.heap.size, 7, none⟩)) rfl rfl (by kernel_rfl) (by kernel_rfl) (by kernel_rfl) (fun _ _ _ h => h) (yieldsIf_val (by rfl) (by intro W; go_simp)) h0 ?_
  simp only [List.setIfInBounds_toArray, List.set_cons_zero, List.set_cons_succ]
  refine hTakeS (i := 21) (k := 26) (v := .int .i64 a.at_) rfl rfl (by kernel_rfl) (by kernel_rfl) (by kernel_rfl) (fun _ _ _ h => h) (.inl ⟨by rfl, fun W hW => by have c := hW.cx 7; simp only [List.getElem?_toArray, List.getElem?_cons_zero, List.getElem?_cons_succ] at c; go_simp⟩) h0 ?_
  simp only [List.setIfInBounds_toArray, List.set_cons_zero, List.set_cons_succ]
  refine hTakeS (i := 22) (k := 27) (v := .pointer (some ⟨w.heap.size + 1, 7, none⟩)) rfl rfl (by kernel_rfl) (by kernel_rfl) (by kernel_rfl) (fun _ _ _ h => h) (yieldsIf_val (by rfl) (by intro W; go_simp)) h0 ?_
  simp only [List.setIfInBounds_toArray, List.set_cons_zero, List.set_cons_succ]
  refine hTakeS (i := 23) (k := 28) (v := .int .i64 b.at_) rfl rfl (by kernel_rfl) (by kernel_rfl) (by kernel_rfl) (fun _ _ _ h => h) (.inl ⟨by rfl, fun W hW => by have c := hW.cy 7; simp only [List.getElem?_toArray, List.getElem?_cons_zero, List.getElem?_cons_succ] at c; go_simp⟩) h0 ?_
  simp only [List.setIfInBounds_toArray, List.set_cons_zero, List.set_cons_succ]
  refine hCall (i := 4) (k := 9) (by kernel_rfl) rfl rfl (by rfl) 13 #[.agg (PC a.r), .agg (PC b.r)] (by intro W; go_simp) (.int .i64 zr) (fun W hW => (HP.out W).mono fun e W1 hh => ⟨hh.1, hW.below hh.2⟩) h0 (fun W1 h1 => ?_)
  simp only [List.setIfInBounds_toArray, List.set_cons_zero, List.set_cons_succ]
  refine hCall (i := 9) (k := 14) (by kernel_rfl) rfl rfl (by rfl) 32 #[.int .i64 a.steps, .int .i64 b.steps] (by intro W; go_simp) (.int .i64 z_steps) (fun W hW => ((HC_steps.out).go W).mono fun e W1 hh => ⟨hh.1, hh.2 ▸ hW⟩) h1 (fun W2 h2 => ?_)
  simp only [List.setIfInBounds_toArray, List.set_cons_zero, List.set_cons_succ]
  refine hCall (i := 14) (k := 19) (by kernel_rfl) rfl rfl (by rfl) 32 #[.int .i64 a.from_, .int .i64 b.from_] (by intro W; go_simp) (.int .i64 z_from_) (fun W hW => ((HC_from_.out).go W).mono fun e W1 hh => ⟨hh.1, hh.2 ▸ hW⟩) h2 (fun W3 h3 => ?_)
  simp only [List.setIfInBounds_toArray, List.set_cons_zero, List.set_cons_succ]
  refine hCall (i := 19) (k := 24) (by kernel_rfl) rfl rfl (by rfl) 32 #[.int .i64 a.port, .int .i64 b.port] (by intro W; go_simp) (.int .i64 z_port) (fun W hW => ((HC_port.out).go W).mono fun e W1 hh => ⟨hh.1, hh.2 ▸ hW⟩) h3 (fun W4 h4 => ?_)
  simp only [List.setIfInBounds_toArray, List.set_cons_zero, List.set_cons_succ]
  refine hCall (i := 24) (k := 29) (by kernel_rfl) rfl rfl (by rfl) 32 #[.int .i64 a.at_, .int .i64 b.at_] (by intro W; go_simp) (.int .i64 z_at_) (fun W hW => ((HC_at_.out).go W).mono fun e W1 hh => ⟨hh.1, hh.2 ▸ hW⟩) h4 (fun W5 h5 => ?_)
  simp only [List.setIfInBounds_toArray, List.set_cons_zero, List.set_cons_succ]
  refine hOneS (i := 25) (k := 30) (v := .slice (some ⟨W5.heap.size, 0, none⟩) 5 5) (by kernel_rfl) rfl rfl (by rfl) (bs5_op _ _ _ _ _ rfl rfl rfl rfl rfl rfl _) (h5.below (bAl (bRef _) _)) ?_
  simp only [List.setIfInBounds_toArray, List.set_cons_zero, List.set_cons_succ]
  refine hCallR (i := 26) (k := 31) (by kernel_rfl) rfl rfl (by rfl) 31 #[.slice (some ⟨W5.heap.size, 0, none⟩) 5 5] (by go_simp) (HOr.out _) ?_
  rintro e W9 ⟨rfl, rfl⟩
  refine ⟨_, rfl, h5.below (bAl (bRef _) _), ?_⟩
  simp only [List.setIfInBounds_toArray, List.set_cons_zero, List.set_cons_succ]
  refine hTakeS (i := 27) (k := 4) (v := .int .i64 z) rfl rfl (by kernel_rfl) (by kernel_rfl) (by kernel_rfl) (fun _ _ _ h => h) (yieldsIf_val (by rfl) (by intro W; go_simp)) (h5.below (bAl (bRef _) _)) ?_
  simp only [List.setIfInBounds_toArray, List.set_cons_zero, List.set_cons_succ]
  refine wpAnyH_done (by kernel_rfl) ?_ _
  go_wp2_with fail
  go_ret
  exact ⟨rfl, (h5.below (bAl (bRef _) _)).bel⟩

end Go.Proofs.Ytholemjbjmkpkaa
