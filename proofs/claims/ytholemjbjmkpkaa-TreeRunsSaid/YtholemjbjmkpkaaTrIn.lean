/- Package tree: In. -/
import Derived.Test.YtholemjbjmkpkaaTrNew
namespace Go.Proofs.Ytholemjbjmkpkaa
open Go.RowKit Go.Joins Go.Deep

/-- What a message's port has heard then. -/
def heardK (m : Mg) (now : Int) : Kp := ⟨true, true, now, ⟨⟨m.one, m.cls, m.two, m.id⟩, m.steps, m.src, m.port, 0⟩, m.path⟩
/-- What In answers. -/
def Ts.inC (t : Ts) (at_ : Int) (m : Mg) : Int :=
  if m.kind = 11 ∧ m.dom = t.dom ∧ m.chk = 0 then
    if t.has at_ && (t.ports at_.toNat).up then
      if m.src = t.own.id ∨ t.own.id ∈ m.path ∨ m.steps = 255 ∨ m.path.length = 32 then 31 else 0
    else 40
  else 23
def Ts.inT (t : Ts) (at_ : Int) (m : Mg) (now : Int) : Ts := if t.inC at_ m = 0 then t.set at_.toNat (heardK m now) else t
theorem mbest (m : Mg) (u : Value) : ∀ j x, (PC ⟨m.one, m.cls, m.two, m.id⟩).toList[j]? = some x → (MC m u)[10 + j]? = some x := by
  intro j x h
  have hl : j < 4 := by have := (List.getElem?_eq_some_iff.1 h).1; simpa [PC] using this
  rcases (show j = 0 ∨ j = 1 ∨ j = 2 ∨ j = 3 by omega) with rfl | rfl | rfl | rfl <;> exact h
/-- The message's box, and the tree, in a world that came of w. -/
structure IS (w : World) (b : Nat) (m : Mg) (u : Value) (t : Ts) (W : World) : Prop where
  bel : Below w.heap.size w W
  box : W.heap[w.heap.size]? = some (.cells (MC m u) 58 (0, 0))
  arg : LArg W u m.path
  t0 : W.cell? ⟨b, 0, none⟩ = some (.int .i64 t.dom)
  t4 : W.cell? ⟨b, 4, none⟩ = some (.int .i64 t.own.id)
section
variable {w W W' : World} {b : Nat} {m : Mg} {u : Value} {t : Ts}
theorem IS.below (h : IS w b m u t W) (hb : Below W.heap.size W W') : IS w b m u t W' := ⟨bTr h.bel hb, (hb.block _ (lt_of_heap h.box)).trans h.box, h.arg.below hb, (hb.cell (block_lt_cell h.t0)).trans h.t0, (hb.cell (block_lt_cell h.t4)).trans h.t4⟩
theorem IS.drew (h : IS w b m u t W) : IS w b m u t W.drew := h.below ⟨rfl, rfl, rfl, Nat.le_refl _, fun _ _ => rfl⟩
theorem IS.mc (h : IS w b m u t W) (k : Nat) : W.cell? ⟨w.heap.size, k, none⟩ = (MC m u)[k]? := cell_of_row _ _ _ _ _ _ h.box
end
/-- The message's box, and the tree's row. -/
structure IS0 (w : World) (b g tn : Nat) (m : Mg) (u : Value) (W : World) : Prop where
  box : W.heap[w.heap.size]? = some (.cells (MC m u) 58 (0, 0))
  t6 : W.cell? ⟨b, 6, none⟩ = some (.slice (some ⟨g, 0, none⟩) tn tn)
theorem IS0.mc {w W : World} {b g tn : Nat} {m : Mg} {u : Value} (h : IS0 w b g tn m u W) (k : Nat) : W.cell? ⟨w.heap.size, k, none⟩ = (MC m u)[k]? := cell_of_row _ _ _ _ _ _ h.box
theorem IS0.sets {w W : World} {b g tn : Nat} {m : Mg} {u : Value} (h : IS0 w b g tn m u W) (h1 : w.heap.size ≠ g) (h2 : b ≠ g) (o : Nat) (l : List Value) : IS0 w b g tn m u (W.setCells g o l) := by
  have hb := (ButB.refl g W).sets l o
  exact ⟨(hb.block _ (lt_of_heap h.box) h1).trans h.box, (World.cell?_of_block (hb.block _ (block_lt_cell h.t6) h2)).trans h.t6⟩
theorem in_nil (at_ : Int) (m : Mg) (p : Option Addr) (l c : Nat) (now : Int) (w : World) : Calls Try.prog 27 #[.pointer none, .int .i64 at_, .agg (MC m (.slice p l c)), .int .i64 now] w fun e w' => e = .returned (.int .i64 23) ∧ Below w.heap.size w w' := by
  rw [show MC m (.slice p l c) = #[.int .i64 m.kind, .int .i64 m.dom, .int .i64 m.seq, .int .i64 m.src, .int .i64 m.port, .int .i64 m.corr, .int .i64 m.time, .int .i64 m.tw, .int .i64 m.tp, .int .i64 m.rate, .int .i64 m.one, .int .i64 m.cls, .int .i64 m.two, .int .i64 m.id, .int .i64 m.steps, .slice p l c] from rfl]
  have hbb := bAl (bRef w) (.cells #[.int .i64 m.kind, .int .i64 m.dom, .int .i64 m.seq, .int .i64 m.src, .int .i64 m.port, .int .i64 m.corr, .int .i64 m.time, .int .i64 m.tw, .int .i64 m.tp, .int .i64 m.rate, .int .i64 m.one, .int .i64 m.cls, .int .i64 m.two, .int .i64 m.id, .int .i64 m.steps, .slice p l c] 58)
  go_enter Try.func27, Try.ntmps27
  go_upto_region 1 with fail
  generalize w.alloc (.cells #[.int .i64 m.kind, .int .i64 m.dom, .int .i64 m.seq, .int .i64 m.src, .int .i64 m.port, .int .i64 m.corr, .int .i64 m.time, .int .i64 m.tw, .int .i64 m.tp, .int .i64 m.rate, .int .i64 m.one, .int .i64 m.cls, .int .i64 m.two, .int .i64 m.id, .int .i64 m.steps, .slice p l c] 58) = W1 at *
  have hb0 : Below w.heap.size w W1.drew := hbb.trans ⟨rfl, rfl, rfl, Nat.le_refl _, fun _ _ => rfl⟩
  refine wp_region_held_drew (S := fun V => Below w.heap.size w V) (by kernel_rfl) hb0 (fun h0 => ?_)
  refine hTakeS (i := 0) (k := 10) (v := .pointer none) rfl rfl (by kernel_rfl) (by kernel_rfl) (by kernel_rfl) (fun _ _ _ h => h) (yieldsIf_val (by rfl) (by intro W; go_simp)) h0 ?_
  simp only [List.setIfInBounds_toArray, List.set_cons_zero, List.set_cons_succ]
  refine hTakeS (i := 1) (k := 11) (v := .bool true) rfl rfl (by kernel_rfl) (by kernel_rfl) (by kernel_rfl) (fun _ _ _ h => h) (yieldsIf_val (by rfl) (by intro W; go_simp)) h0 ?_
  simp only [List.setIfInBounds_toArray, List.set_cons_zero, List.set_cons_succ]
  refine hTakeS (i := 2) (k := 12) (v := .bool true) rfl rfl (by kernel_rfl) (by kernel_rfl) (by kernel_rfl) (fun _ _ _ h => h) (yieldsIf_val (by rfl) (by intro W; go_simp)) h0 ?_
  simp only [List.setIfInBounds_toArray, List.set_cons_zero, List.set_cons_succ]
  refine hTakeS (i := 3) (k := 13) (v := undef) rfl rfl (by kernel_rfl) (by kernel_rfl) (by kernel_rfl) (fun _ _ _ h => h) (yieldsIf_skip (by rfl)) h0 ?_
  simp only [List.setIfInBounds_toArray, List.set_cons_zero, List.set_cons_succ]
  refine hTakeS (i := 4) (k := 14) (v := undef) rfl rfl (by kernel_rfl) (by kernel_rfl) (by kernel_rfl) (fun _ _ _ h => h) (yieldsIf_skip (by rfl)) h0 ?_
  simp only [List.setIfInBounds_toArray, List.set_cons_zero, List.set_cons_succ]
  refine hTakeS (i := 5) (k := 15) (v := undef) rfl rfl (by kernel_rfl) (by kernel_rfl) (by kernel_rfl) (fun _ _ _ h => h) (yieldsIf_skip (by rfl)) h0 ?_
  simp only [List.setIfInBounds_toArray, List.set_cons_zero, List.set_cons_succ]
  refine hTakeS (i := 6) (k := 16) (v := .bool true) rfl rfl (by kernel_rfl) (by kernel_rfl) (by kernel_rfl) (fun _ _ _ h => h) (yieldsIf_val (by rfl) (by intro W; go_simp)) h0 ?_
  simp only [List.setIfInBounds_toArray, List.set_cons_zero, List.set_cons_succ]
  refine hTakeS (i := 7) (k := 17) (v := .bool true) rfl rfl (by kernel_rfl) (by kernel_rfl) (by kernel_rfl) (fun _ _ _ h => h) (yieldsIf_val (by rfl) (by intro W; go_simp)) h0 ?_
  simp only [List.setIfInBounds_toArray, List.set_cons_zero, List.set_cons_succ]
  refine hTakeS (i := 8) (k := 18) (v := undef) rfl rfl (by kernel_rfl) (by kernel_rfl) (by kernel_rfl) (fun _ _ _ h => h) (yieldsIf_skip (by rfl)) h0 ?_
  simp only [List.setIfInBounds_toArray, List.set_cons_zero, List.set_cons_succ]
  refine hTakeS (i := 9) (k := 19) (v := undef) rfl rfl (by kernel_rfl) (by kernel_rfl) (by kernel_rfl) (fun _ _ _ h => h) (yieldsIf_skip (by rfl)) h0 ?_
  simp only [List.setIfInBounds_toArray, List.set_cons_zero, List.set_cons_succ]
  refine hTakeS (i := 10) (k := 20) (v := undef) rfl rfl (by kernel_rfl) (by kernel_rfl) (by kernel_rfl) (fun _ _ _ h => h) (yieldsIf_skip (by rfl)) h0 ?_
  simp only [List.setIfInBounds_toArray, List.set_cons_zero, List.set_cons_succ]
  refine hTakeS (i := 11) (k := 21) (v := undef) rfl rfl (by kernel_rfl) (by kernel_rfl) (by kernel_rfl) (fun _ _ _ h => h) (yieldsIf_skip (by rfl)) h0 ?_
  simp only [List.setIfInBounds_toArray, List.set_cons_zero, List.set_cons_succ]
  refine hTakeS (i := 12) (k := 22) (v := undef) rfl rfl (by kernel_rfl) (by kernel_rfl) (by kernel_rfl) (fun _ _ _ h => h) (yieldsIf_skip (by rfl)) h0 ?_
  simp only [List.setIfInBounds_toArray, List.set_cons_zero, List.set_cons_succ]
  refine hTakeS (i := 13) (k := 23) (v := undef) rfl rfl (by kernel_rfl) (by kernel_rfl) (by kernel_rfl) (fun _ _ _ h => h) (yieldsIf_skip (by rfl)) h0 ?_
  simp only [List.setIfInBounds_toArray, List.set_cons_zero, List.set_cons_succ]
  refine hTakeS (i := 14) (k := 24) (v := undef) rfl rfl (by kernel_rfl) (by kernel_rfl) (by kernel_rfl) (fun _ _ _ h => h) (yieldsIf_skip (by rfl)) h0 ?_
  simp only [List.setIfInBounds_toArray, List.set_cons_zero, List.set_cons_succ]
  refine hTakeS (i := 15) (k := 25) (v := .bool true) rfl rfl (by kernel_rfl) (by kernel_rfl) (by kernel_rfl) (fun _ _ _ h => h) (yieldsIf_val (by rfl) (by intro W; go_simp)) h0 ?_
  simp only [List.setIfInBounds_toArray, List.set_cons_zero, List.set_cons_succ]
  refine hTakeS (i := 16) (k := 26) (v := .bool true) rfl rfl (by kernel_rfl) (by kernel_rfl) (by kernel_rfl) (fun _ _ _ h => h) (yieldsIf_val (by rfl) (by intro W; go_simp)) h0 ?_
  simp only [List.setIfInBounds_toArray, List.set_cons_zero, List.set_cons_succ]
  refine hTakeS (i := 17) (k := 27) (v := undef) rfl rfl (by kernel_rfl) (by kernel_rfl) (by kernel_rfl) (fun _ _ _ h => h) (yieldsIf_skip (by rfl)) h0 ?_
  simp only [List.setIfInBounds_toArray, List.set_cons_zero, List.set_cons_succ]
  refine hTakeS (i := 18) (k := 28) (v := undef) rfl rfl (by kernel_rfl) (by kernel_rfl) (by kernel_rfl) (fun _ _ _ h => h) (yieldsIf_skip (by rfl)) h0 ?_
  simp only [List.setIfInBounds_toArray, List.set_cons_zero, List.set_cons_succ]
  refine hTakeS (i := 19) (k := 29) (v := undef) rfl rfl (by kernel_rfl) (by kernel_rfl) (by kernel_rfl) (fun _ _ _ h => h) (yieldsIf_skip (by rfl)) h0 ?_
  simp only [List.setIfInBounds_toArray, List.set_cons_zero, List.set_cons_succ]
  refine hTakeS (i := 20) (k := 30) (v := .bool true) rfl rfl (by kernel_rfl) (by kernel_rfl) (by kernel_rfl) (fun _ _ _ h => h) (yieldsIf_val (by rfl) (by intro W; go_simp)) h0 ?_
  simp only [List.setIfInBounds_toArray, List.set_cons_zero, List.set_cons_succ]
  refine hTakeS (i := 21) (k := 9) (v := .bool true) rfl rfl (by kernel_rfl) (by kernel_rfl) (by kernel_rfl) (fun _ _ _ h => h) (yieldsIf_val (by rfl) (by intro W; go_simp)) h0 ?_
  simp only [List.setIfInBounds_toArray, List.set_cons_zero, List.set_cons_succ]
  refine wpAnyH_done (by kernel_rfl) ?_ _
  have HB := Lib.hid hb0
  clear h0 hbb hb0
  go_wp2_with fail
  go_ret
  exact ⟨rfl, HB.out⟩
set_option maxRecDepth 20000 in
set_option maxHeartbeats 4000000 in
theorem in_any {w : World} {b g : Nat} {t : Ts} (h : Tr w b g t) (_hok : t.Ok) (at_ : Int) (m : Mg) (u : Value) (now : Int) (hwf : m.Wf) (harg : LArg w u m.path) (hl : m.path.length ≤ 1000) :
    Calls Try.prog 27 #[.pointer (some ⟨b, 0, none⟩), .int .i64 at_, .agg (MC m u), .int .i64 now] w fun e w' => e = .returned (.int .i64 (t.inC at_ m)) ∧ LeaveT b g w (t.inT at_ m now) w' := by
  obtain ⟨pa, pc, rfl⟩ := harg.slice
  obtain ⟨us, hi⟩ := h
  have HT := Lib.hid hi
  have H0 : Hid (IS w b m (.slice pa m.path.length pc) t (w.alloc (.cells (MC m (.slice pa m.path.length pc)) 58))) := Lib.hid ⟨bAl (bRef w) _, heap_alloc_new w _, harg.below (bAl (bRef w) _), ((bAl (bRef w) _).cell hi.lt).trans hi.c0, ((bAl (bRef w) _).cell hi.lt).trans hi.c4⟩
  have HCk := Lib.hid (fun W (ha : LArg W (.slice pa m.path.length pc) m.path) => check_any m (.slice pa m.path.length pc) W hwf ha (by omega))
  have HCo := Lib.hid (fun W (ha : LArg W (.slice pa m.path.length pc) m.path) => contains_any t.own.id ha (by omega) (decide (t.own.id ∈ m.path)) rfl)
  have HCl := Lib.hid (fun W (ha : LArg W (.slice pa m.path.length pc) m.path) => clone_any ha hl)
  obtain ⟨n, hn⟩ : ∃ n, n = m.path.length := ⟨_, rfl⟩
  have HIC : Hid (t.inC at_ m = if m.kind = 11 ∧ m.dom = t.dom ∧ m.chk = 0 then (if t.has at_ && (t.ports at_.toNat).up then (if m.src = t.own.id ∨ t.own.id ∈ m.path ∨ m.steps = 255 ∨ n = 32 then 31 else 0) else 40) else 23) := Lib.hid (by rw [hn]; rfl)
  have HIT : Hid (t.inT at_ m now = if t.inC at_ m = 0 then t.set at_.toNat (heardK m now) else t) := Lib.hid rfl
  have HHs := Lib.hid (fun W (hb : Below w.heap.size w W) => has_any (⟨us, hi.below hb⟩ : Tr W b g t) at_)
  rw [← hn] at H0 HCk HCo HCl
  rw [show MV m (.slice pa n pc) = .agg #[.int .i64 m.kind, .int .i64 m.dom, .int .i64 m.seq, .int .i64 m.src, .int .i64 m.port, .int .i64 m.corr, .int .i64 m.time, .int .i64 m.tw, .int .i64 m.tp, .int .i64 m.rate, .int .i64 m.one, .int .i64 m.cls, .int .i64 m.two, .int .i64 m.id, .int .i64 m.steps, .slice pa n pc] from rfl] at HCk
  rw [show MC m (.slice pa m.path.length pc) = #[.int .i64 m.kind, .int .i64 m.dom, .int .i64 m.seq, .int .i64 m.src, .int .i64 m.port, .int .i64 m.corr, .int .i64 m.time, .int .i64 m.tw, .int .i64 m.tp, .int .i64 m.rate, .int .i64 m.one, .int .i64 m.cls, .int .i64 m.two, .int .i64 m.id, .int .i64 m.steps, .slice pa m.path.length pc] from rfl]
  rw [← hn]
  have Hnn := Lib.hid hn
  generalize hck : m.chk = ck at *
  clear hi harg hl hwf hn hck
  have hmc : MC m (.slice pa n pc) = #[.int .i64 m.kind, .int .i64 m.dom, .int .i64 m.seq, .int .i64 m.src, .int .i64 m.port, .int .i64 m.corr, .int .i64 m.time, .int .i64 m.tw, .int .i64 m.tp, .int .i64 m.rate, .int .i64 m.one, .int .i64 m.cls, .int .i64 m.two, .int .i64 m.id, .int .i64 m.steps, .slice pa n pc] := rfl
  rw [hmc] at H0
  clear hmc
  by_cases e1 : m.kind = 11
  · by_cases e2 : m.dom = t.dom
    · have d1 : (m.kind != 11) = false := by rw [e1]; rfl
      have d2 : (m.dom != t.dom) = false := by rw [bne_eq_false_iff_eq]; exact e2
      by_cases e3 : ck = 0
      · have HIC2 := Lib.hid (show t.inC at_ m = if t.has at_ && (t.ports at_.toNat).up then (if m.src = t.own.id ∨ t.own.id ∈ m.path ∨ m.steps = 255 ∨ n = 32 then 31 else 0) else 40 by rw [HIC.out, if_pos ⟨e1, e2, e3⟩])
        subst e3
        clear e1 e2 HIC
        go_enter Try.func27, Try.ntmps27
        go_upto_region 1 with fail
        generalize w.alloc (.cells #[.int .i64 m.kind, .int .i64 m.dom, .int .i64 m.seq, .int .i64 m.src, .int .i64 m.port, .int .i64 m.corr, .int .i64 m.time, .int .i64 m.tw, .int .i64 m.tp, .int .i64 m.rate, .int .i64 m.one, .int .i64 m.cls, .int .i64 m.two, .int .i64 m.id, .int .i64 m.steps, .slice pa n pc] 58) = W1 at *
        have h0 := H0.out.drew
        refine wp_region_held_drew (S := IS w b m (.slice pa n pc) t) (by kernel_rfl) h0 (fun h0 => ?_)
        refine hTakeS (i := 0) (k := 10) (v := .pointer (some ⟨b, 0, none⟩)) rfl rfl (by kernel_rfl) (by kernel_rfl) (by kernel_rfl) (fun _ _ _ h => h) (yieldsIf_val (by rfl) (by intro W; go_simp)) h0 ?_
        simp only [List.setIfInBounds_toArray, List.set_cons_zero, List.set_cons_succ]
        refine hTakeS (i := 1) (k := 11) (v := .bool false) rfl rfl (by kernel_rfl) (by kernel_rfl) (by kernel_rfl) (fun _ _ _ h => h) (yieldsIf_val (by rfl) (by intro W; go_simp)) h0 ?_
        simp only [List.setIfInBounds_toArray, List.set_cons_zero, List.set_cons_succ]
        refine hTakeS (i := 2) (k := 12) (v := .bool false) rfl rfl (by kernel_rfl) (by kernel_rfl) (by kernel_rfl) (fun _ _ _ h => h) (yieldsIf_val (by rfl) (by intro W; go_simp)) h0 ?_
        simp only [List.setIfInBounds_toArray, List.set_cons_zero, List.set_cons_succ]
        refine hTakeS (i := 3) (k := 13) (v := .pointer (some ⟨w.heap.size, 0, none⟩)) rfl rfl (by kernel_rfl) (by kernel_rfl) (by kernel_rfl) (fun _ _ _ h => h) (yieldsIf_val (by rfl) (by intro W; go_simp)) h0 ?_
        simp only [List.setIfInBounds_toArray, List.set_cons_zero, List.set_cons_succ]
        refine hTakeS (i := 4) (k := 14) (v := .int .i64 m.kind) rfl rfl (by kernel_rfl) (by kernel_rfl) (by kernel_rfl) (fun _ _ _ h => h) (.inl ⟨by rfl, fun W hW => by have c := hW.mc 0; rw [show (MC m (.slice pa n pc))[0]? = some (.int .i64 m.kind) from rfl] at c; go_simp⟩) h0 ?_
        simp only [List.setIfInBounds_toArray, List.set_cons_zero, List.set_cons_succ]
        refine hTakeS (i := 5) (k := 15) (v := .bool false) rfl rfl (by kernel_rfl) (by kernel_rfl) (by kernel_rfl) (fun _ _ _ h => h) (yieldsIf_val (by rfl) (by intro W; go_simp)) h0 ?_
        simp only [List.setIfInBounds_toArray, List.set_cons_zero, List.set_cons_succ]
        refine hTakeS (i := 6) (k := 16) (v := .bool false) rfl rfl (by kernel_rfl) (by kernel_rfl) (by kernel_rfl) (fun _ _ _ h => h) (yieldsIf_val (by rfl) (by intro W; go_simp)) h0 ?_
        simp only [List.setIfInBounds_toArray, List.set_cons_zero, List.set_cons_succ]
        refine hTakeS (i := 7) (k := 17) (v := .bool false) rfl rfl (by kernel_rfl) (by kernel_rfl) (by kernel_rfl) (fun _ _ _ h => h) (yieldsIf_val (by rfl) (by intro W; go_simp)) h0 ?_
        simp only [List.setIfInBounds_toArray, List.set_cons_zero, List.set_cons_succ]
        refine hTakeS (i := 8) (k := 18) (v := .pointer (some ⟨w.heap.size, 1, none⟩)) rfl rfl (by kernel_rfl) (by kernel_rfl) (by kernel_rfl) (fun _ _ _ h => h) (yieldsIf_val (by rfl) (by intro W; go_simp)) h0 ?_
        simp only [List.setIfInBounds_toArray, List.set_cons_zero, List.set_cons_succ]
        refine hTakeS (i := 9) (k := 19) (v := .int .i64 m.dom) rfl rfl (by kernel_rfl) (by kernel_rfl) (by kernel_rfl) (fun _ _ _ h => h) (.inl ⟨by rfl, fun W hW => by have c := hW.mc 1; rw [show (MC m (.slice pa n pc))[1]? = some (.int .i64 m.dom) from rfl] at c; go_simp⟩) h0 ?_
        simp only [List.setIfInBounds_toArray, List.set_cons_zero, List.set_cons_succ]
        refine hTakeS (i := 10) (k := 20) (v := .pointer (some ⟨b, 0, none⟩)) rfl rfl (by kernel_rfl) (by kernel_rfl) (by kernel_rfl) (fun _ _ _ h => h) (yieldsIf_val (by rfl) (by intro W; go_simp)) h0 ?_
        simp only [List.setIfInBounds_toArray, List.set_cons_zero, List.set_cons_succ]
        refine hTakeS (i := 11) (k := 21) (v := .pointer (some ⟨b, 0, none⟩)) rfl rfl (by kernel_rfl) (by kernel_rfl) (by kernel_rfl) (fun _ _ _ h => h) (yieldsIf_val (by rfl) (by intro W; go_simp)) h0 ?_
        simp only [List.setIfInBounds_toArray, List.set_cons_zero, List.set_cons_succ]
        refine hTakeS (i := 12) (k := 22) (v := .pointer (some ⟨b, 0, none⟩)) rfl rfl (by kernel_rfl) (by kernel_rfl) (by kernel_rfl) (fun _ _ _ h => h) (yieldsIf_val (by rfl) (by intro W; go_simp)) h0 ?_
        simp only [List.setIfInBounds_toArray, List.set_cons_zero, List.set_cons_succ]
        refine hTakeS (i := 13) (k := 23) (v := .int .i64 t.dom) rfl rfl (by kernel_rfl) (by kernel_rfl) (by kernel_rfl) (fun _ _ _ h => h) (.inl ⟨by rfl, fun W hW => by have c := hW.t0; go_simp⟩) h0 ?_
        simp only [List.setIfInBounds_toArray, List.set_cons_zero, List.set_cons_succ]
        refine hTakeS (i := 14) (k := 24) (v := .bool false) rfl rfl (by kernel_rfl) (by kernel_rfl) (by kernel_rfl) (fun _ _ _ h => h) (yieldsIf_val (by rfl) (by intro W; go_simp)) h0 ?_
        simp only [List.setIfInBounds_toArray, List.set_cons_zero, List.set_cons_succ]
        refine hTakeS (i := 15) (k := 25) (v := .bool false) rfl rfl (by kernel_rfl) (by kernel_rfl) (by kernel_rfl) (fun _ _ _ h => h) (yieldsIf_val (by rfl) (by intro W; go_simp)) h0 ?_
        simp only [List.setIfInBounds_toArray, List.set_cons_zero, List.set_cons_succ]
        refine hTakeS (i := 16) (k := 26) (v := .bool false) rfl rfl (by kernel_rfl) (by kernel_rfl) (by kernel_rfl) (fun _ _ _ h => h) (yieldsIf_val (by rfl) (by intro W; go_simp)) h0 ?_
        simp only [List.setIfInBounds_toArray, List.set_cons_zero, List.set_cons_succ]
        refine hTakeS (i := 17) (k := 27) (v := .agg #[.int .i64 m.kind, .int .i64 m.dom, .int .i64 m.seq, .int .i64 m.src, .int .i64 m.port, .int .i64 m.corr, .int .i64 m.time, .int .i64 m.tw, .int .i64 m.tp, .int .i64 m.rate, .int .i64 m.one, .int .i64 m.cls, .int .i64 m.two, .int .i64 m.id, .int .i64 m.steps, .slice pa n pc]) rfl rfl (by kernel_rfl) (by kernel_rfl) (by kernel_rfl) (fun _ _ _ h => h) (.inl ⟨by rfl, fun W hW => loadOp _ _ rfl _ _ #[.int .i64 m.kind, .int .i64 m.dom, .int .i64 m.seq, .int .i64 m.src, .int .i64 m.port, .int .i64 m.corr, .int .i64 m.time, .int .i64 m.tw, .int .i64 m.tp, .int .i64 m.rate, .int .i64 m.one, .int .i64 m.cls, .int .i64 m.two, .int .i64 m.id, .int .i64 m.steps, .slice pa n pc] _ (range_whole hW.box) Try.underlying58 rfl (by kernel_rfl) rfl⟩) h0 ?_
        simp only [List.setIfInBounds_toArray, List.set_cons_zero, List.set_cons_succ]
        refine hCallR (i := 18) (k := 28) (by kernel_rfl) rfl rfl (by rfl) 28 #[.agg #[.int .i64 m.kind, .int .i64 m.dom, .int .i64 m.seq, .int .i64 m.src, .int .i64 m.port, .int .i64 m.corr, .int .i64 m.time, .int .i64 m.tw, .int .i64 m.tp, .int .i64 m.rate, .int .i64 m.one, .int .i64 m.cls, .int .i64 m.two, .int .i64 m.id, .int .i64 m.steps, .slice pa n pc]] (by go_simp) (HCk.out _ h0.arg) ?_
        rintro e W5 ⟨rfl, hb⟩
        have k5 := h0.below hb
        clear hb
        refine ⟨_, rfl, k5, ?_⟩
        simp only [List.setIfInBounds_toArray, List.set_cons_zero, List.set_cons_succ]
        refine hTakeS (i := 19) (k := 29) (v := .bool false) rfl rfl (by kernel_rfl) (by kernel_rfl) (by kernel_rfl) (fun _ _ _ h => h) (yieldsIf_val (by rfl) (by intro W; go_simp)) k5 ?_
        simp only [List.setIfInBounds_toArray, List.set_cons_zero, List.set_cons_succ]
        refine hTakeS (i := 20) (k := 30) (v := .bool false) rfl rfl (by kernel_rfl) (by kernel_rfl) (by kernel_rfl) (fun _ _ _ h => h) (yieldsIf_val (by rfl) (by intro W; go_simp)) k5 ?_
        simp only [List.setIfInBounds_toArray, List.set_cons_zero, List.set_cons_succ]
        refine hTakeS (i := 21) (k := 9) (v := .bool false) rfl rfl (by kernel_rfl) (by kernel_rfl) (by kernel_rfl) (fun _ _ _ h => h) (yieldsIf_val (by rfl) (by intro W; go_simp)) k5 ?_
        simp only [List.setIfInBounds_toArray, List.set_cons_zero, List.set_cons_succ]
        refine wpAnyH_done (by kernel_rfl) ?_ _
        have H5 := Lib.hid k5
        clear h0 k5 d1 d2 H0
        have HIT2 := HIT
        cases ha : t.has at_ with
        | false =>
          have HE : Hid (t.inC at_ m = 40) := Lib.hid (by rw [HIC2.out, ha]; rfl)
          have HTE : Hid (t.inT at_ m now = t) := Lib.hid (by rw [HIT.out, HE.out, if_neg (by decide)])
          rw [ha] at HHs
          clear ha HIC2 HIT HIT2
          go_wp2_with (go_at_call 36; (with_reducible refine (HHs.out _ H5.out.bel).mono ?_); rintro e w1 ⟨rfl, rfl⟩)
          go_ret
          exact ⟨by rw [HE.out]; rfl, by rw [HTE.out]; exact ⟨⟨us, HT.out.below H5.out.bel⟩, ButB.of_below H5.out.bel⟩⟩
        | true =>
          have ha' := ha
          unfold Ts.has at ha'
          simp only [Bool.and_eq_true, decide_eq_true_eq] at ha'
          obtain ⟨k, rfl⟩ : ∃ k : Nat, at_ = (k : Int) := ⟨at_.toNat, by omega⟩
          rw [ha] at HHs
          rw [ha, Bool.true_and] at HIC2
          rw [Int.toNat_natCast] at HIC2 HIT2 HIT
          have hk : k < t.n := by omega
          have ht5 := HT.out.below H5.out.bel
          have c6 := ht5.c6
          have hp := ht5.port hk
          have cu : W5.cell? ⟨g, k * 12, none⟩ = some (.bool (t.ports k).up) := hp 0 _ rfl
          have hn8 : (k : Int) < (t.n : Int) := by omega
          have HKt := Lib.hid hk
          have HNe := Lib.hid (fun V (hv : IS w b m (.slice pa n pc) t V) => show w.heap.size ≠ g ∧ b ≠ g from by
            have ht := HT.out.below hv.bel
            obtain ⟨cs, hg, _⟩ := ht.row
            exact ⟨neq_tag hv.box hg (by decide), neq_tag ht.box hg (by decide)⟩)
          clear ha ha' hp ht5
          obtain ⟨tn, htn⟩ : ∃ tn, tn = t.n := ⟨_, rfl⟩
          rw [← htn] at c6 hn8 hk
          have HTn := Lib.hid htn
          clear htn
          generalize hpu : (t.ports k).up = pu at *
          clear hpu
          cases pu with
          | false =>
            have HE : Hid (t.inC k m = 40) := Lib.hid (by rw [HIC2.out]; rfl)
            have HTE : Hid (t.inT k m now = t) := Lib.hid (by rw [HIT.out, HE.out, if_neg (by decide)])
            clear HIC2 HIT HIT2
            go_wp2_with (go_at_call 36; (with_reducible refine (HHs.out _ H5.out.bel).mono ?_); rintro e w1 ⟨rfl, rfl⟩)
            go_ret
            exact ⟨by rw [HE.out]; rfl, by rw [HTE.out]; exact ⟨⟨us, HT.out.below H5.out.bel⟩, ButB.of_below H5.out.bel⟩⟩
          | true =>
            rw [if_pos rfl] at HIC2
            go_upto_region 5 with (go_at_call 36; (with_reducible refine (HHs.out _ H5.out.bel).mono ?_); rintro e w1 ⟨rfl, rfl⟩)
            have h0 := H5.out.drew
            clear c6 cu
            by_cases f1 : m.src = t.own.id
            · have d1 : (m.src == t.own.id) = true := by rw [beq_iff_eq]; exact f1
              have HE : Hid (t.inC k m = 31) := Lib.hid (by rw [HIC2.out, if_pos (.inl f1)])
              have HTE : Hid (t.inT k m now = t) := Lib.hid (by rw [HIT.out, HE.out, if_neg (by decide)])
              clear f1 HIC2 HIT HIT2
              refine wp_region_held_drew (S := IS w b m (.slice pa n pc) t) (by kernel_rfl) h0 (fun h0 => ?_)
              refine hTakeS (i := 0) (k := 48) (v := .pointer (some ⟨w.heap.size, 3, none⟩)) rfl rfl (by kernel_rfl) (by kernel_rfl) (by kernel_rfl) (fun _ _ _ h => h) (yieldsIf_val (by rfl) (by intro W; go_simp)) h0 ?_
              simp only [List.setIfInBounds_toArray, List.set_cons_zero, List.set_cons_succ]
              refine hTakeS (i := 1) (k := 49) (v := .int .i64 m.src) rfl rfl (by kernel_rfl) (by kernel_rfl) (by kernel_rfl) (fun _ _ _ h => h) (.inl ⟨by rfl, fun W hW => by have c := hW.mc 3; rw [show (MC m (.slice pa n pc))[3]? = some (.int .i64 m.src) from rfl] at c; go_simp⟩) h0 ?_
              simp only [List.setIfInBounds_toArray, List.set_cons_zero, List.set_cons_succ]
              refine hTakeS (i := 2) (k := 50) (v := .pointer (some ⟨b, 0, none⟩)) rfl rfl (by kernel_rfl) (by kernel_rfl) (by kernel_rfl) (fun _ _ _ h => h) (yieldsIf_val (by rfl) (by intro W; go_simp)) h0 ?_
              simp only [List.setIfInBounds_toArray, List.set_cons_zero, List.set_cons_succ]
              refine hTakeS (i := 3) (k := 51) (v := .pointer (some ⟨b, 0, none⟩)) rfl rfl (by kernel_rfl) (by kernel_rfl) (by kernel_rfl) (fun _ _ _ h => h) (yieldsIf_val (by rfl) (by intro W; go_simp)) h0 ?_
              simp only [List.setIfInBounds_toArray, List.set_cons_zero, List.set_cons_succ]
              refine hTakeS (i := 4) (k := 52) (v := .pointer (some ⟨b, 1, none⟩)) rfl rfl (by kernel_rfl) (by kernel_rfl) (by kernel_rfl) (fun _ _ _ h => h) (yieldsIf_val (by rfl) (by intro W; go_simp)) h0 ?_
              simp only [List.setIfInBounds_toArray, List.set_cons_zero, List.set_cons_succ]
              refine hTakeS (i := 5) (k := 53) (v := .pointer (some ⟨b, 4, none⟩)) rfl rfl (by kernel_rfl) (by kernel_rfl) (by kernel_rfl) (fun _ _ _ h => h) (yieldsIf_val (by rfl) (by intro W; go_simp)) h0 ?_
              simp only [List.setIfInBounds_toArray, List.set_cons_zero, List.set_cons_succ]
              refine hTakeS (i := 6) (k := 54) (v := .int .i64 t.own.id) rfl rfl (by kernel_rfl) (by kernel_rfl) (by kernel_rfl) (fun _ _ _ h => h) (.inl ⟨by rfl, fun W hW => by have c := hW.t4; go_simp⟩) h0 ?_
              simp only [List.setIfInBounds_toArray, List.set_cons_zero, List.set_cons_succ]
              refine hTakeS (i := 7) (k := 55) (v := .bool true) rfl rfl (by kernel_rfl) (by kernel_rfl) (by kernel_rfl) (fun _ _ _ h => h) (yieldsIf_val (by rfl) (by intro W; go_simp)) h0 ?_
              simp only [List.setIfInBounds_toArray, List.set_cons_zero, List.set_cons_succ]
              refine hTakeS (i := 8) (k := 56) (v := .bool true) rfl rfl (by kernel_rfl) (by kernel_rfl) (by kernel_rfl) (fun _ _ _ h => h) (yieldsIf_val (by rfl) (by intro W; go_simp)) h0 ?_
              simp only [List.setIfInBounds_toArray, List.set_cons_zero, List.set_cons_succ]
              refine hTakeS (i := 9) (k := 57) (v := undef) rfl rfl (by kernel_rfl) (by kernel_rfl) (by kernel_rfl) (fun _ _ _ h => h) (yieldsIf_skip (by rfl)) h0 ?_
              simp only [List.setIfInBounds_toArray, List.set_cons_zero, List.set_cons_succ]
              refine hTakeS (i := 10) (k := 58) (v := undef) rfl rfl (by kernel_rfl) (by kernel_rfl) (by kernel_rfl) (fun _ _ _ h => h) (yieldsIf_skip (by rfl)) h0 ?_
              simp only [List.setIfInBounds_toArray, List.set_cons_zero, List.set_cons_succ]
              refine hTakeS (i := 11) (k := 59) (v := undef) rfl rfl (by kernel_rfl) (by kernel_rfl) (by kernel_rfl) (fun _ _ _ h => h) (yieldsIf_skip (by rfl)) h0 ?_
              simp only [List.setIfInBounds_toArray, List.set_cons_zero, List.set_cons_succ]
              refine hTakeS (i := 12) (k := 60) (v := undef) rfl rfl (by kernel_rfl) (by kernel_rfl) (by kernel_rfl) (fun _ _ _ h => h) (yieldsIf_skip (by rfl)) h0 ?_
              simp only [List.setIfInBounds_toArray, List.set_cons_zero, List.set_cons_succ]
              refine hTakeS (i := 13) (k := 61) (v := undef) rfl rfl (by kernel_rfl) (by kernel_rfl) (by kernel_rfl) (fun _ _ _ h => h) (yieldsIf_skip (by rfl)) h0 ?_
              simp only [List.setIfInBounds_toArray, List.set_cons_zero, List.set_cons_succ]
              refine hTakeS (i := 14) (k := 62) (v := undef) rfl rfl (by kernel_rfl) (by kernel_rfl) (by kernel_rfl) (fun _ _ _ h => h) (yieldsIf_skip (by rfl)) h0 ?_
              simp only [List.setIfInBounds_toArray, List.set_cons_zero, List.set_cons_succ]
              refine hTakeS (i := 15) (k := 63) (v := undef) rfl rfl (by kernel_rfl) (by kernel_rfl) (by kernel_rfl) (fun _ _ _ h => h) (yieldsIf_skip (by rfl)) h0 ?_
              simp only [List.setIfInBounds_toArray, List.set_cons_zero, List.set_cons_succ]
              refine hTakeS (i := 16) (k := 64) (v := undef) rfl rfl (by kernel_rfl) (by kernel_rfl) (by kernel_rfl) (fun _ _ _ h => h) (yieldsIf_skip (by rfl)) h0 ?_
              simp only [List.setIfInBounds_toArray, List.set_cons_zero, List.set_cons_succ]
              refine hTakeS (i := 17) (k := 65) (v := .bool true) rfl rfl (by kernel_rfl) (by kernel_rfl) (by kernel_rfl) (fun _ _ _ h => h) (yieldsIf_val (by rfl) (by intro W; go_simp)) h0 ?_
              simp only [List.setIfInBounds_toArray, List.set_cons_zero, List.set_cons_succ]
              refine hTakeS (i := 18) (k := 47) (v := .bool true) rfl rfl (by kernel_rfl) (by kernel_rfl) (by kernel_rfl) (fun _ _ _ h => h) (yieldsIf_val (by rfl) (by intro W; go_simp)) h0 ?_
              simp only [List.setIfInBounds_toArray, List.set_cons_zero, List.set_cons_succ]
              refine wpAnyH_done (by kernel_rfl) ?_ _
              have HB := Lib.hid h0.bel
              clear h0
              go_wp2_with fail
              go_ret
              exact ⟨by rw [HE.out]; rfl, by rw [HTE.out]; exact ⟨⟨us, HT.out.below HB.out⟩, ButB.of_below HB.out⟩⟩
            · have d1 : (m.src == t.own.id) = false := by rw [beq_eq_false_iff_ne]; exact f1
              by_cases f2 : t.own.id ∈ m.path
              · have HE : Hid (t.inC k m = 31) := Lib.hid (by rw [HIC2.out, if_pos (.inr (.inl f2))])
                have HTE : Hid (t.inT k m now = t) := Lib.hid (by rw [HIT.out, HE.out, if_neg (by decide)])
                rw [decide_eq_true f2] at HCo
                clear f1 f2 HIC2 HIT HIT2
                refine wp_region_held_drew (S := IS w b m (.slice pa n pc) t) (by kernel_rfl) h0 (fun h0 => ?_)
                refine hTakeS (i := 0) (k := 48) (v := .pointer (some ⟨w.heap.size, 3, none⟩)) rfl rfl (by kernel_rfl) (by kernel_rfl) (by kernel_rfl) (fun _ _ _ h => h) (yieldsIf_val (by rfl) (by intro W; go_simp)) h0 ?_
                simp only [List.setIfInBounds_toArray, List.set_cons_zero, List.set_cons_succ]
                refine hTakeS (i := 1) (k := 49) (v := .int .i64 m.src) rfl rfl (by kernel_rfl) (by kernel_rfl) (by kernel_rfl) (fun _ _ _ h => h) (.inl ⟨by rfl, fun W hW => by have c := hW.mc 3; rw [show (MC m (.slice pa n pc))[3]? = some (.int .i64 m.src) from rfl] at c; go_simp⟩) h0 ?_
                simp only [List.setIfInBounds_toArray, List.set_cons_zero, List.set_cons_succ]
                refine hTakeS (i := 2) (k := 50) (v := .pointer (some ⟨b, 0, none⟩)) rfl rfl (by kernel_rfl) (by kernel_rfl) (by kernel_rfl) (fun _ _ _ h => h) (yieldsIf_val (by rfl) (by intro W; go_simp)) h0 ?_
                simp only [List.setIfInBounds_toArray, List.set_cons_zero, List.set_cons_succ]
                refine hTakeS (i := 3) (k := 51) (v := .pointer (some ⟨b, 0, none⟩)) rfl rfl (by kernel_rfl) (by kernel_rfl) (by kernel_rfl) (fun _ _ _ h => h) (yieldsIf_val (by rfl) (by intro W; go_simp)) h0 ?_
                simp only [List.setIfInBounds_toArray, List.set_cons_zero, List.set_cons_succ]
                refine hTakeS (i := 4) (k := 52) (v := .pointer (some ⟨b, 1, none⟩)) rfl rfl (by kernel_rfl) (by kernel_rfl) (by kernel_rfl) (fun _ _ _ h => h) (yieldsIf_val (by rfl) (by intro W; go_simp)) h0 ?_
                simp only [List.setIfInBounds_toArray, List.set_cons_zero, List.set_cons_succ]
                refine hTakeS (i := 5) (k := 53) (v := .pointer (some ⟨b, 4, none⟩)) rfl rfl (by kernel_rfl) (by kernel_rfl) (by kernel_rfl) (fun _ _ _ h => h) (yieldsIf_val (by rfl) (by intro W; go_simp)) h0 ?_
                simp only [List.setIfInBounds_toArray, List.set_cons_zero, List.set_cons_succ]
                refine hTakeS (i := 6) (k := 54) (v := .int .i64 t.own.id) rfl rfl (by kernel_rfl) (by kernel_rfl) (by kernel_rfl) (fun _ _ _ h => h) (.inl ⟨by rfl, fun W hW => by have c := hW.t4; go_simp⟩) h0 ?_
                simp only [List.setIfInBounds_toArray, List.set_cons_zero, List.set_cons_succ]
                refine hTakeS (i := 7) (k := 55) (v := .bool false) rfl rfl (by kernel_rfl) (by kernel_rfl) (by kernel_rfl) (fun _ _ _ h => h) (yieldsIf_val (by rfl) (by intro W; go_simp)) h0 ?_
                simp only [List.setIfInBounds_toArray, List.set_cons_zero, List.set_cons_succ]
                refine hTakeS (i := 8) (k := 56) (v := .bool false) rfl rfl (by kernel_rfl) (by kernel_rfl) (by kernel_rfl) (fun _ _ _ h => h) (yieldsIf_val (by rfl) (by intro W; go_simp)) h0 ?_
                simp only [List.setIfInBounds_toArray, List.set_cons_zero, List.set_cons_succ]
                refine hTakeS (i := 9) (k := 57) (v := .pointer (some ⟨w.heap.size, 15, none⟩)) rfl rfl (by kernel_rfl) (by kernel_rfl) (by kernel_rfl) (fun _ _ _ h => h) (yieldsIf_val (by rfl) (by intro W; go_simp)) h0 ?_
                simp only [List.setIfInBounds_toArray, List.set_cons_zero, List.set_cons_succ]
                refine hTakeS (i := 10) (k := 58) (v := .slice pa n pc) rfl rfl (by kernel_rfl) (by kernel_rfl) (by kernel_rfl) (fun _ _ _ h => h) (.inl ⟨by rfl, fun W hW => by have c := hW.mc 15; rw [show (MC m (.slice pa n pc))[15]? = some (.slice pa n pc) from rfl] at c; go_simp⟩) h0 ?_
                simp only [List.setIfInBounds_toArray, List.set_cons_zero, List.set_cons_succ]
                refine hTakeS (i := 11) (k := 59) (v := .pointer (some ⟨b, 0, none⟩)) rfl rfl (by kernel_rfl) (by kernel_rfl) (by kernel_rfl) (fun _ _ _ h => h) (yieldsIf_val (by rfl) (by intro W; go_simp)) h0 ?_
                simp only [List.setIfInBounds_toArray, List.set_cons_zero, List.set_cons_succ]
                refine hTakeS (i := 12) (k := 60) (v := .pointer (some ⟨b, 0, none⟩)) rfl rfl (by kernel_rfl) (by kernel_rfl) (by kernel_rfl) (fun _ _ _ h => h) (yieldsIf_val (by rfl) (by intro W; go_simp)) h0 ?_
                simp only [List.setIfInBounds_toArray, List.set_cons_zero, List.set_cons_succ]
                refine hTakeS (i := 13) (k := 61) (v := .pointer (some ⟨b, 1, none⟩)) rfl rfl (by kernel_rfl) (by kernel_rfl) (by kernel_rfl) (fun _ _ _ h => h) (yieldsIf_val (by rfl) (by intro W; go_simp)) h0 ?_
                simp only [List.setIfInBounds_toArray, List.set_cons_zero, List.set_cons_succ]
                refine hTakeS (i := 14) (k := 62) (v := .pointer (some ⟨b, 4, none⟩)) rfl rfl (by kernel_rfl) (by kernel_rfl) (by kernel_rfl) (fun _ _ _ h => h) (yieldsIf_val (by rfl) (by intro W; go_simp)) h0 ?_
                simp only [List.setIfInBounds_toArray, List.set_cons_zero, List.set_cons_succ]
                refine hTakeS (i := 15) (k := 63) (v := .int .i64 t.own.id) rfl rfl (by kernel_rfl) (by kernel_rfl) (by kernel_rfl) (fun _ _ _ h => h) (.inl ⟨by rfl, fun W hW => by have c := hW.t4; go_simp⟩) h0 ?_
                simp only [List.setIfInBounds_toArray, List.set_cons_zero, List.set_cons_succ]
                refine hCallR (i := 16) (k := 64) (by kernel_rfl) rfl rfl (by rfl) 38 #[.slice pa n pc, .int .i64 t.own.id] (by go_simp) (HCo.out _ h0.arg) ?_
                rintro e W5 ⟨rfl, rfl⟩
                refine ⟨_, rfl, h0, ?_⟩
                simp only [List.setIfInBounds_toArray, List.set_cons_zero, List.set_cons_succ]
                refine hTakeS (i := 17) (k := 65) (v := .bool true) rfl rfl (by kernel_rfl) (by kernel_rfl) (by kernel_rfl) (fun _ _ _ h => h) (yieldsIf_val (by rfl) (by intro W; go_simp)) h0 ?_
                simp only [List.setIfInBounds_toArray, List.set_cons_zero, List.set_cons_succ]
                refine hTakeS (i := 18) (k := 47) (v := .bool true) rfl rfl (by kernel_rfl) (by kernel_rfl) (by kernel_rfl) (fun _ _ _ h => h) (yieldsIf_val (by rfl) (by intro W; go_simp)) h0 ?_
                simp only [List.setIfInBounds_toArray, List.set_cons_zero, List.set_cons_succ]
                refine wpAnyH_done (by kernel_rfl) ?_ _
                have HB := Lib.hid h0.bel
                clear h0
                go_wp2_with fail
                go_ret
                exact ⟨by rw [HE.out]; rfl, by rw [HTE.out]; exact ⟨⟨us, HT.out.below HB.out⟩, ButB.of_below HB.out⟩⟩
              · rw [decide_eq_false f2] at HCo
                refine wp_region_held_drew (S := IS w b m (.slice pa n pc) t) (by kernel_rfl) h0 (fun h0 => ?_)
                refine hTakeS (i := 0) (k := 48) (v := .pointer (some ⟨w.heap.size, 3, none⟩)) rfl rfl (by kernel_rfl) (by kernel_rfl) (by kernel_rfl) (fun _ _ _ h => h) (yieldsIf_val (by rfl) (by intro W; go_simp)) h0 ?_
                simp only [List.setIfInBounds_toArray, List.set_cons_zero, List.set_cons_succ]
                refine hTakeS (i := 1) (k := 49) (v := .int .i64 m.src) rfl rfl (by kernel_rfl) (by kernel_rfl) (by kernel_rfl) (fun _ _ _ h => h) (.inl ⟨by rfl, fun W hW => by have c := hW.mc 3; rw [show (MC m (.slice pa n pc))[3]? = some (.int .i64 m.src) from rfl] at c; go_simp⟩) h0 ?_
                simp only [List.setIfInBounds_toArray, List.set_cons_zero, List.set_cons_succ]
                refine hTakeS (i := 2) (k := 50) (v := .pointer (some ⟨b, 0, none⟩)) rfl rfl (by kernel_rfl) (by kernel_rfl) (by kernel_rfl) (fun _ _ _ h => h) (yieldsIf_val (by rfl) (by intro W; go_simp)) h0 ?_
                simp only [List.setIfInBounds_toArray, List.set_cons_zero, List.set_cons_succ]
                refine hTakeS (i := 3) (k := 51) (v := .pointer (some ⟨b, 0, none⟩)) rfl rfl (by kernel_rfl) (by kernel_rfl) (by kernel_rfl) (fun _ _ _ h => h) (yieldsIf_val (by rfl) (by intro W; go_simp)) h0 ?_
                simp only [List.setIfInBounds_toArray, List.set_cons_zero, List.set_cons_succ]
                refine hTakeS (i := 4) (k := 52) (v := .pointer (some ⟨b, 1, none⟩)) rfl rfl (by kernel_rfl) (by kernel_rfl) (by kernel_rfl) (fun _ _ _ h => h) (yieldsIf_val (by rfl) (by intro W; go_simp)) h0 ?_
                simp only [List.setIfInBounds_toArray, List.set_cons_zero, List.set_cons_succ]
                refine hTakeS (i := 5) (k := 53) (v := .pointer (some ⟨b, 4, none⟩)) rfl rfl (by kernel_rfl) (by kernel_rfl) (by kernel_rfl) (fun _ _ _ h => h) (yieldsIf_val (by rfl) (by intro W; go_simp)) h0 ?_
                simp only [List.setIfInBounds_toArray, List.set_cons_zero, List.set_cons_succ]
                refine hTakeS (i := 6) (k := 54) (v := .int .i64 t.own.id) rfl rfl (by kernel_rfl) (by kernel_rfl) (by kernel_rfl) (fun _ _ _ h => h) (.inl ⟨by rfl, fun W hW => by have c := hW.t4; go_simp⟩) h0 ?_
                simp only [List.setIfInBounds_toArray, List.set_cons_zero, List.set_cons_succ]
                refine hTakeS (i := 7) (k := 55) (v := .bool false) rfl rfl (by kernel_rfl) (by kernel_rfl) (by kernel_rfl) (fun _ _ _ h => h) (yieldsIf_val (by rfl) (by intro W; go_simp)) h0 ?_
                simp only [List.setIfInBounds_toArray, List.set_cons_zero, List.set_cons_succ]
                refine hTakeS (i := 8) (k := 56) (v := .bool false) rfl rfl (by kernel_rfl) (by kernel_rfl) (by kernel_rfl) (fun _ _ _ h => h) (yieldsIf_val (by rfl) (by intro W; go_simp)) h0 ?_
                simp only [List.setIfInBounds_toArray, List.set_cons_zero, List.set_cons_succ]
                refine hTakeS (i := 9) (k := 57) (v := .pointer (some ⟨w.heap.size, 15, none⟩)) rfl rfl (by kernel_rfl) (by kernel_rfl) (by kernel_rfl) (fun _ _ _ h => h) (yieldsIf_val (by rfl) (by intro W; go_simp)) h0 ?_
                simp only [List.setIfInBounds_toArray, List.set_cons_zero, List.set_cons_succ]
                refine hTakeS (i := 10) (k := 58) (v := .slice pa n pc) rfl rfl (by kernel_rfl) (by kernel_rfl) (by kernel_rfl) (fun _ _ _ h => h) (.inl ⟨by rfl, fun W hW => by have c := hW.mc 15; rw [show (MC m (.slice pa n pc))[15]? = some (.slice pa n pc) from rfl] at c; go_simp⟩) h0 ?_
                simp only [List.setIfInBounds_toArray, List.set_cons_zero, List.set_cons_succ]
                refine hTakeS (i := 11) (k := 59) (v := .pointer (some ⟨b, 0, none⟩)) rfl rfl (by kernel_rfl) (by kernel_rfl) (by kernel_rfl) (fun _ _ _ h => h) (yieldsIf_val (by rfl) (by intro W; go_simp)) h0 ?_
                simp only [List.setIfInBounds_toArray, List.set_cons_zero, List.set_cons_succ]
                refine hTakeS (i := 12) (k := 60) (v := .pointer (some ⟨b, 0, none⟩)) rfl rfl (by kernel_rfl) (by kernel_rfl) (by kernel_rfl) (fun _ _ _ h => h) (yieldsIf_val (by rfl) (by intro W; go_simp)) h0 ?_
                simp only [List.setIfInBounds_toArray, List.set_cons_zero, List.set_cons_succ]
                refine hTakeS (i := 13) (k := 61) (v := .pointer (some ⟨b, 1, none⟩)) rfl rfl (by kernel_rfl) (by kernel_rfl) (by kernel_rfl) (fun _ _ _ h => h) (yieldsIf_val (by rfl) (by intro W; go_simp)) h0 ?_
                simp only [List.setIfInBounds_toArray, List.set_cons_zero, List.set_cons_succ]
                refine hTakeS (i := 14) (k := 62) (v := .pointer (some ⟨b, 4, none⟩)) rfl rfl (by kernel_rfl) (by kernel_rfl) (by kernel_rfl) (fun _ _ _ h => h) (yieldsIf_val (by rfl) (by intro W; go_simp)) h0 ?_
                simp only [List.setIfInBounds_toArray, List.set_cons_zero, List.set_cons_succ]
                refine hTakeS (i := 15) (k := 63) (v := .int .i64 t.own.id) rfl rfl (by kernel_rfl) (by kernel_rfl) (by kernel_rfl) (fun _ _ _ h => h) (.inl ⟨by rfl, fun W hW => by have c := hW.t4; go_simp⟩) h0 ?_
                simp only [List.setIfInBounds_toArray, List.set_cons_zero, List.set_cons_succ]
                refine hCallR (i := 16) (k := 64) (by kernel_rfl) rfl rfl (by rfl) 38 #[.slice pa n pc, .int .i64 t.own.id] (by go_simp) (HCo.out _ h0.arg) ?_
                rintro e W5 ⟨rfl, rfl⟩
                refine ⟨_, rfl, h0, ?_⟩
                simp only [List.setIfInBounds_toArray, List.set_cons_zero, List.set_cons_succ]
                refine hTakeS (i := 17) (k := 65) (v := .bool false) rfl rfl (by kernel_rfl) (by kernel_rfl) (by kernel_rfl) (fun _ _ _ h => h) (yieldsIf_val (by rfl) (by intro W; go_simp)) h0 ?_
                simp only [List.setIfInBounds_toArray, List.set_cons_zero, List.set_cons_succ]
                refine hTakeS (i := 18) (k := 47) (v := .bool false) rfl rfl (by kernel_rfl) (by kernel_rfl) (by kernel_rfl) (fun _ _ _ h => h) (yieldsIf_val (by rfl) (by intro W; go_simp)) h0 ?_
                simp only [List.setIfInBounds_toArray, List.set_cons_zero, List.set_cons_succ]
                refine wpAnyH_done (by kernel_rfl) ?_ _
                have H6 := Lib.hid h0
                clear h0 d1
                have s14 : W5.cell? ⟨w.heap.size, 14, none⟩ = some (.int .i64 m.steps) := H5.out.mc 14
                have s15 : W5.cell? ⟨w.heap.size, 15, none⟩ = some (.slice pa n pc) := H5.out.mc 15
                by_cases f3 : m.steps = 255
                · have d3 : (m.steps == 255) = true := by rw [beq_iff_eq]; exact f3
                  have HE : Hid (t.inC k m = 31) := Lib.hid (by rw [HIC2.out, if_pos (.inr (.inr (.inl f3)))])
                  have HTE : Hid (t.inT k m now = t) := Lib.hid (by rw [HIT.out, HE.out, if_neg (by decide)])
                  clear f1 f2 f3 HIC2 HIT HIT2
                  have HB := Lib.hid H6.out.bel
                  generalize m.steps = st at *
                  go_wp2_with fail
                  go_ret
                  exact ⟨by rw [HE.out]; rfl, by rw [HTE.out]; exact ⟨⟨us, HT.out.below HB.out⟩, ButB.of_below HB.out⟩⟩
                · have d3 : (m.steps == 255) = false := by rw [beq_eq_false_iff_ne]; exact f3
                  by_cases f4 : n = 32
                  · have d4 : ((n : Int) == 32) = true := by rw [beq_iff_eq]; omega
                    have HE : Hid (t.inC k m = 31) := Lib.hid (by rw [HIC2.out, if_pos (.inr (.inr (.inr f4)))])
                    have HTE : Hid (t.inT k m now = t) := Lib.hid (by rw [HIT.out, HE.out, if_neg (by decide)])
                    clear f1 f2 f3 f4 HIC2 HIT HIT2
                    have HB := Lib.hid H6.out.bel
                    go_wp2_with fail
                    go_ret
                    exact ⟨by rw [HE.out]; rfl, by rw [HTE.out]; exact ⟨⟨us, HT.out.below HB.out⟩, ButB.of_below HB.out⟩⟩
                  · have d4 : ((n : Int) == 32) = false := by rw [beq_eq_false_iff_ne]; omega
                    have HE : Hid (t.inC k m = 0) := Lib.hid (by rw [HIC2.out, if_neg (by
                      rintro (h | h | h | h)
                      · exact f1 h
                      · exact f2 h
                      · exact f3 h
                      · exact f4 h)])
                    have HTE : Hid (t.inT k m now = t.set k (heardK m now)) := Lib.hid (by rw [HIT.out, HE.out, if_pos rfl])
                    clear f1 f2 f3 f4 HIC2 HIT HIT2
                    go_upto_region 8 with fail
                    have h0 := H6.out.drew
                    have HPo := Lib.hid (fun V (hv : IS w b m (.slice pa n pc) t V) => (show V.cell? ⟨b, 6, none⟩ = some (.slice (some ⟨g, 0, none⟩) tn tn) by rw [HTn.out]; exact (HT.out.below hv.bel).c6))
                    have HF := Lib.hid h0
                    have hl0 : IS0 w b g tn m (.slice pa n pc) _ := ⟨h0.box, HPo.out _ h0⟩
                    refine wp_region_held_drew (S := IS0 w b g tn m (.slice pa n pc)) (by kernel_rfl) hl0 (fun h0 => ?_)
                    refine hTakeS (i := 0) (k := 75) (v := .pointer (some ⟨b, 0, none⟩)) rfl rfl (by kernel_rfl) (by kernel_rfl) (by kernel_rfl) (fun _ _ _ h => h) (yieldsIf_val (by rfl) (by intro W; go_simp)) h0 ?_
                    simp only [List.setIfInBounds_toArray, List.set_cons_zero, List.set_cons_succ]
                    refine hTakeS (i := 1) (k := 76) (v := .pointer (some ⟨b, 0, none⟩)) rfl rfl (by kernel_rfl) (by kernel_rfl) (by kernel_rfl) (fun _ _ _ h => h) (yieldsIf_val (by rfl) (by intro W; go_simp)) h0 ?_
                    simp only [List.setIfInBounds_toArray, List.set_cons_zero, List.set_cons_succ]
                    refine hTakeS (i := 2) (k := 77) (v := .pointer (some ⟨b, 6, none⟩)) rfl rfl (by kernel_rfl) (by kernel_rfl) (by kernel_rfl) (fun _ _ _ h => h) (yieldsIf_val (by rfl) (by intro W; go_simp)) h0 ?_
                    simp only [List.setIfInBounds_toArray, List.set_cons_zero, List.set_cons_succ]
                    refine hTakeS (i := 3) (k := 78) (v := .slice (some ⟨g, 0, none⟩) tn tn) rfl rfl (by kernel_rfl) (by kernel_rfl) (by kernel_rfl) (fun _ _ _ h => h) (.inl ⟨by rfl, fun W hW => by have c := hW.t6; go_simp⟩) h0 ?_
                    simp only [List.setIfInBounds_toArray, List.set_cons_zero, List.set_cons_succ]
                    refine hTakeS (i := 4) (k := 79) (v := .int .i64 (k : Int)) rfl rfl (by kernel_rfl) (by kernel_rfl) (by kernel_rfl) (fun _ _ _ h => h) (yieldsIf_val (by rfl) (by intro W; go_simp)) h0 ?_
                    simp only [List.setIfInBounds_toArray, List.set_cons_zero, List.set_cons_succ]
                    refine hTakeS (i := 5) (k := 80) (v := .int .i64 now) rfl rfl (by kernel_rfl) (by kernel_rfl) (by kernel_rfl) (fun _ _ _ h => h) (yieldsIf_val (by rfl) (by intro W; go_simp)) h0 ?_
                    simp only [List.setIfInBounds_toArray, List.set_cons_zero, List.set_cons_succ]
                    refine hTakeS (i := 6) (k := 81) (v := .pointer (some ⟨w.heap.size, 10, none⟩)) rfl rfl (by kernel_rfl) (by kernel_rfl) (by kernel_rfl) (fun _ _ _ h => h) (yieldsIf_val (by rfl) (by intro W; go_simp)) h0 ?_
                    simp only [List.setIfInBounds_toArray, List.set_cons_zero, List.set_cons_succ]
                    refine hTakeS (i := 7) (k := 82) (v := .agg #[.int .i64 m.one, .int .i64 m.cls, .int .i64 m.two, .int .i64 m.id]) rfl rfl (by kernel_rfl) (by kernel_rfl) (by kernel_rfl) (fun _ _ _ h => h) (.inl ⟨by rfl, fun W hW => loadOp _ _ rfl _ _ #[.int .i64 m.one, .int .i64 m.cls, .int .i64 m.two, .int .i64 m.id] _ (range_of_row hW.box 10 _ (mbest m (.slice pa n pc))) Try.underlying23 rfl (by kernel_rfl) rfl⟩) h0 ?_
                    simp only [List.setIfInBounds_toArray, List.set_cons_zero, List.set_cons_succ]
                    refine hTakeS (i := 8) (k := 83) (v := .pointer (some ⟨w.heap.size, 14, none⟩)) rfl rfl (by kernel_rfl) (by kernel_rfl) (by kernel_rfl) (fun _ _ _ h => h) (yieldsIf_val (by rfl) (by intro W; go_simp)) h0 ?_
                    simp only [List.setIfInBounds_toArray, List.set_cons_zero, List.set_cons_succ]
                    refine hTakeS (i := 9) (k := 84) (v := .int .i64 m.steps) rfl rfl (by kernel_rfl) (by kernel_rfl) (by kernel_rfl) (fun _ _ _ h => h) (.inl ⟨by rfl, fun W hW => by have c := hW.mc 14; rw [show (MC m (.slice pa n pc))[14]? = some (.int .i64 m.steps) from rfl] at c; go_simp⟩) h0 ?_
                    simp only [List.setIfInBounds_toArray, List.set_cons_zero, List.set_cons_succ]
                    refine hTakeS (i := 10) (k := 85) (v := .pointer (some ⟨w.heap.size, 3, none⟩)) rfl rfl (by kernel_rfl) (by kernel_rfl) (by kernel_rfl) (fun _ _ _ h => h) (yieldsIf_val (by rfl) (by intro W; go_simp)) h0 ?_
                    simp only [List.setIfInBounds_toArray, List.set_cons_zero, List.set_cons_succ]
                    refine hTakeS (i := 11) (k := 86) (v := .int .i64 m.src) rfl rfl (by kernel_rfl) (by kernel_rfl) (by kernel_rfl) (fun _ _ _ h => h) (.inl ⟨by rfl, fun W hW => by have c := hW.mc 3; rw [show (MC m (.slice pa n pc))[3]? = some (.int .i64 m.src) from rfl] at c; go_simp⟩) h0 ?_
                    simp only [List.setIfInBounds_toArray, List.set_cons_zero, List.set_cons_succ]
                    refine hTakeS (i := 12) (k := 87) (v := .pointer (some ⟨w.heap.size, 4, none⟩)) rfl rfl (by kernel_rfl) (by kernel_rfl) (by kernel_rfl) (fun _ _ _ h => h) (yieldsIf_val (by rfl) (by intro W; go_simp)) h0 ?_
                    simp only [List.setIfInBounds_toArray, List.set_cons_zero, List.set_cons_succ]
                    refine hTakeS (i := 13) (k := 88) (v := .int .i64 m.port) rfl rfl (by kernel_rfl) (by kernel_rfl) (by kernel_rfl) (fun _ _ _ h => h) (.inl ⟨by rfl, fun W hW => by have c := hW.mc 4; rw [show (MC m (.slice pa n pc))[4]? = some (.int .i64 m.port) from rfl] at c; go_simp⟩) h0 ?_
                    simp only [List.setIfInBounds_toArray, List.set_cons_zero, List.set_cons_succ]
                    refine hTakeS (i := 15) (k := 90) (v := .pointer (some ⟨w.heap.size, 15, none⟩)) rfl rfl (by kernel_rfl) (by kernel_rfl) (by kernel_rfl) (fun _ _ _ h => h) (yieldsIf_val (by rfl) (by intro W; go_simp)) h0 ?_
                    simp only [List.setIfInBounds_toArray, List.set_cons_zero, List.set_cons_succ]
                    refine hTakeS (i := 16) (k := 91) (v := .slice pa n pc) rfl rfl (by kernel_rfl) (by kernel_rfl) (by kernel_rfl) (fun _ _ _ h => h) (.inl ⟨by rfl, fun W hW => by have c := hW.mc 15; rw [show (MC m (.slice pa n pc))[15]? = some (.slice pa n pc) from rfl] at c; go_simp⟩) h0 ?_
                    simp only [List.setIfInBounds_toArray, List.set_cons_zero, List.set_cons_succ]
                    refine hTakeS (i := 14) (k := 89) (v := .agg #[.int .i64 m.one, .int .i64 m.cls, .int .i64 m.two, .int .i64 m.id, .int .i64 m.steps, .int .i64 m.src, .int .i64 m.port, .int .i64 0]) rfl rfl (by kernel_rfl) (by kernel_rfl) (by kernel_rfl) (fun _ _ _ h => h) (yieldsIf_val (by rfl) (fun W => buildOp _ _ rfl #[.int .i64 m.one, .int .i64 m.cls, .int .i64 m.two, .int .i64 m.id, .int .i64 m.steps, .int .i64 m.src, .int .i64 m.port, .int .i64 0] (by simp only [List.map_toArray, List.map_cons, List.map_nil]; kernel_rfl) W)) hl0 ?_
                    simp only [List.setIfInBounds_toArray, List.set_cons_zero, List.set_cons_succ]
                    refine hCallR (i := 17) (k := 92) (by kernel_rfl) rfl rfl (by rfl) 39 #[.slice pa n pc] (by go_simp) (HCl.out _ HF.out.arg) ?_
                    rintro e W5 ⟨u5, rfl, hpa, hb⟩
                    have k5 := HF.out.below hb
                    obtain ⟨qa, qc, hu5⟩ := hpa.slice
                    rw [← Hnn.out] at hu5
                    subst hu5
                    have HPa := Lib.hid hpa
                    have HB5 := Lib.hid k5.bel
                    have kl5 : IS0 w b g tn m (.slice pa n pc) W5 := ⟨k5.box, HPo.out _ k5⟩
                    clear hpa hb
                    refine ⟨_, rfl, kl5, ?_⟩
                    simp only [List.setIfInBounds_toArray, List.set_cons_zero, List.set_cons_succ]
                    refine hTakeS (i := 18) (k := 93) (v := .agg #[.bool true, .bool true, .int .i64 now, .int .i64 m.one, .int .i64 m.cls, .int .i64 m.two, .int .i64 m.id, .int .i64 m.steps, .int .i64 m.src, .int .i64 m.port, .int .i64 0, .slice qa n qc]) rfl rfl (by kernel_rfl) (by kernel_rfl) (by kernel_rfl) (fun _ _ _ h => h) (yieldsIf_val (by rfl) (fun W => buildOp _ _ rfl #[.bool true, .bool true, .int .i64 now, .int .i64 m.one, .int .i64 m.cls, .int .i64 m.two, .int .i64 m.id, .int .i64 m.steps, .int .i64 m.src, .int .i64 m.port, .int .i64 0, .slice qa n qc] (by simp only [List.map_toArray, List.map_cons, List.map_nil]; kernel_rfl) W)) kl5 ?_
                    simp only [List.setIfInBounds_toArray, List.set_cons_zero, List.set_cons_succ]
                    refine hTakeS (i := 19) (k := 94) (v := .pointer (some ⟨g, k * 12, none⟩)) rfl rfl (by kernel_rfl) (by kernel_rfl) (by kernel_rfl) (fun _ _ _ h => h) (yieldsIf_val (by rfl) (by intro W; go_simp)) kl5 ?_
                    simp only [List.setIfInBounds_toArray, List.set_cons_zero, List.set_cons_succ]
                    have HT5 := Lib.hid (HT.out.below k5.bel)
                    refine hOneNS (i := 20) (by kernel_rfl) rfl rfl (by rfl) (storeMid _ _ _ rfl g (k * 12) #[.bool true, .bool true, .int .i64 now, .int .i64 m.one, .int .i64 m.cls, .int .i64 m.two, .int .i64 m.id, .int .i64 m.steps, .int .i64 m.src, .int .i64 m.port, .int .i64 0, .slice qa n qc] rfl rfl (HT5.out.there HKt.out) (by kernel_rfl) (by simp [Value.oneCell'])) (kl5.sets (HNe.out _ k5).1 (HNe.out _ k5).2 _ _) ?_
                    refine wpAnyH_done (by kernel_rfl) ?_ _
                    have HS := Lib.hid (HT5.out.set HKt.out (heardK m now) (.slice qa n qc) HPa.out)
                    have HBt := Lib.hid ((ButB.of_below (b := g) HB5.out).sets #[.bool true, .bool true, .int .i64 now, .int .i64 m.one, .int .i64 m.cls, .int .i64 m.two, .int .i64 m.id, .int .i64 m.steps, .int .i64 m.src, .int .i64 m.port, .int .i64 0, .slice qa n qc].toList (k * 12))
                    clear h0 hl0 k5 kl5
                    go_wp2_with fail
                    go_ret
                    exact ⟨by rw [HE.out]; rfl, by rw [HTE.out]; exact ⟨⟨_, HS.out⟩, HBt.out⟩⟩
      · have HE : Hid (t.inC at_ m = 23) := Lib.hid (by rw [HIC.out, if_neg (fun h => e3 h.2.2)])
        have HTE : Hid (t.inT at_ m now = t) := Lib.hid (by rw [HIT.out, HE.out, if_neg (by decide)])
        have d3 : ((ck : Int) != 0) = true := by rw [bne_iff_ne]; omega
        clear e1 e2 e3 HIC HIT
        go_enter Try.func27, Try.ntmps27
        go_upto_region 1 with fail
        generalize w.alloc (.cells #[.int .i64 m.kind, .int .i64 m.dom, .int .i64 m.seq, .int .i64 m.src, .int .i64 m.port, .int .i64 m.corr, .int .i64 m.time, .int .i64 m.tw, .int .i64 m.tp, .int .i64 m.rate, .int .i64 m.one, .int .i64 m.cls, .int .i64 m.two, .int .i64 m.id, .int .i64 m.steps, .slice pa n pc] 58) = W1 at *
        have h0 := H0.out.drew
        refine wp_region_held_drew (S := IS w b m (.slice pa n pc) t) (by kernel_rfl) h0 (fun h0 => ?_)
        refine hTakeS (i := 0) (k := 10) (v := .pointer (some ⟨b, 0, none⟩)) rfl rfl (by kernel_rfl) (by kernel_rfl) (by kernel_rfl) (fun _ _ _ h => h) (yieldsIf_val (by rfl) (by intro W; go_simp)) h0 ?_
        simp only [List.setIfInBounds_toArray, List.set_cons_zero, List.set_cons_succ]
        refine hTakeS (i := 1) (k := 11) (v := .bool false) rfl rfl (by kernel_rfl) (by kernel_rfl) (by kernel_rfl) (fun _ _ _ h => h) (yieldsIf_val (by rfl) (by intro W; go_simp)) h0 ?_
        simp only [List.setIfInBounds_toArray, List.set_cons_zero, List.set_cons_succ]
        refine hTakeS (i := 2) (k := 12) (v := .bool false) rfl rfl (by kernel_rfl) (by kernel_rfl) (by kernel_rfl) (fun _ _ _ h => h) (yieldsIf_val (by rfl) (by intro W; go_simp)) h0 ?_
        simp only [List.setIfInBounds_toArray, List.set_cons_zero, List.set_cons_succ]
        refine hTakeS (i := 3) (k := 13) (v := .pointer (some ⟨w.heap.size, 0, none⟩)) rfl rfl (by kernel_rfl) (by kernel_rfl) (by kernel_rfl) (fun _ _ _ h => h) (yieldsIf_val (by rfl) (by intro W; go_simp)) h0 ?_
        simp only [List.setIfInBounds_toArray, List.set_cons_zero, List.set_cons_succ]
        refine hTakeS (i := 4) (k := 14) (v := .int .i64 m.kind) rfl rfl (by kernel_rfl) (by kernel_rfl) (by kernel_rfl) (fun _ _ _ h => h) (.inl ⟨by rfl, fun W hW => by have c := hW.mc 0; rw [show (MC m (.slice pa n pc))[0]? = some (.int .i64 m.kind) from rfl] at c; go_simp⟩) h0 ?_
        simp only [List.setIfInBounds_toArray, List.set_cons_zero, List.set_cons_succ]
        refine hTakeS (i := 5) (k := 15) (v := .bool false) rfl rfl (by kernel_rfl) (by kernel_rfl) (by kernel_rfl) (fun _ _ _ h => h) (yieldsIf_val (by rfl) (by intro W; go_simp)) h0 ?_
        simp only [List.setIfInBounds_toArray, List.set_cons_zero, List.set_cons_succ]
        refine hTakeS (i := 6) (k := 16) (v := .bool false) rfl rfl (by kernel_rfl) (by kernel_rfl) (by kernel_rfl) (fun _ _ _ h => h) (yieldsIf_val (by rfl) (by intro W; go_simp)) h0 ?_
        simp only [List.setIfInBounds_toArray, List.set_cons_zero, List.set_cons_succ]
        refine hTakeS (i := 7) (k := 17) (v := .bool false) rfl rfl (by kernel_rfl) (by kernel_rfl) (by kernel_rfl) (fun _ _ _ h => h) (yieldsIf_val (by rfl) (by intro W; go_simp)) h0 ?_
        simp only [List.setIfInBounds_toArray, List.set_cons_zero, List.set_cons_succ]
        refine hTakeS (i := 8) (k := 18) (v := .pointer (some ⟨w.heap.size, 1, none⟩)) rfl rfl (by kernel_rfl) (by kernel_rfl) (by kernel_rfl) (fun _ _ _ h => h) (yieldsIf_val (by rfl) (by intro W; go_simp)) h0 ?_
        simp only [List.setIfInBounds_toArray, List.set_cons_zero, List.set_cons_succ]
        refine hTakeS (i := 9) (k := 19) (v := .int .i64 m.dom) rfl rfl (by kernel_rfl) (by kernel_rfl) (by kernel_rfl) (fun _ _ _ h => h) (.inl ⟨by rfl, fun W hW => by have c := hW.mc 1; rw [show (MC m (.slice pa n pc))[1]? = some (.int .i64 m.dom) from rfl] at c; go_simp⟩) h0 ?_
        simp only [List.setIfInBounds_toArray, List.set_cons_zero, List.set_cons_succ]
        refine hTakeS (i := 10) (k := 20) (v := .pointer (some ⟨b, 0, none⟩)) rfl rfl (by kernel_rfl) (by kernel_rfl) (by kernel_rfl) (fun _ _ _ h => h) (yieldsIf_val (by rfl) (by intro W; go_simp)) h0 ?_
        simp only [List.setIfInBounds_toArray, List.set_cons_zero, List.set_cons_succ]
        refine hTakeS (i := 11) (k := 21) (v := .pointer (some ⟨b, 0, none⟩)) rfl rfl (by kernel_rfl) (by kernel_rfl) (by kernel_rfl) (fun _ _ _ h => h) (yieldsIf_val (by rfl) (by intro W; go_simp)) h0 ?_
        simp only [List.setIfInBounds_toArray, List.set_cons_zero, List.set_cons_succ]
        refine hTakeS (i := 12) (k := 22) (v := .pointer (some ⟨b, 0, none⟩)) rfl rfl (by kernel_rfl) (by kernel_rfl) (by kernel_rfl) (fun _ _ _ h => h) (yieldsIf_val (by rfl) (by intro W; go_simp)) h0 ?_
        simp only [List.setIfInBounds_toArray, List.set_cons_zero, List.set_cons_succ]
        refine hTakeS (i := 13) (k := 23) (v := .int .i64 t.dom) rfl rfl (by kernel_rfl) (by kernel_rfl) (by kernel_rfl) (fun _ _ _ h => h) (.inl ⟨by rfl, fun W hW => by have c := hW.t0; go_simp⟩) h0 ?_
        simp only [List.setIfInBounds_toArray, List.set_cons_zero, List.set_cons_succ]
        refine hTakeS (i := 14) (k := 24) (v := .bool false) rfl rfl (by kernel_rfl) (by kernel_rfl) (by kernel_rfl) (fun _ _ _ h => h) (yieldsIf_val (by rfl) (by intro W; go_simp)) h0 ?_
        simp only [List.setIfInBounds_toArray, List.set_cons_zero, List.set_cons_succ]
        refine hTakeS (i := 15) (k := 25) (v := .bool false) rfl rfl (by kernel_rfl) (by kernel_rfl) (by kernel_rfl) (fun _ _ _ h => h) (yieldsIf_val (by rfl) (by intro W; go_simp)) h0 ?_
        simp only [List.setIfInBounds_toArray, List.set_cons_zero, List.set_cons_succ]
        refine hTakeS (i := 16) (k := 26) (v := .bool false) rfl rfl (by kernel_rfl) (by kernel_rfl) (by kernel_rfl) (fun _ _ _ h => h) (yieldsIf_val (by rfl) (by intro W; go_simp)) h0 ?_
        simp only [List.setIfInBounds_toArray, List.set_cons_zero, List.set_cons_succ]
        refine hTakeS (i := 17) (k := 27) (v := .agg #[.int .i64 m.kind, .int .i64 m.dom, .int .i64 m.seq, .int .i64 m.src, .int .i64 m.port, .int .i64 m.corr, .int .i64 m.time, .int .i64 m.tw, .int .i64 m.tp, .int .i64 m.rate, .int .i64 m.one, .int .i64 m.cls, .int .i64 m.two, .int .i64 m.id, .int .i64 m.steps, .slice pa n pc]) rfl rfl (by kernel_rfl) (by kernel_rfl) (by kernel_rfl) (fun _ _ _ h => h) (.inl ⟨by rfl, fun W hW => loadOp _ _ rfl _ _ #[.int .i64 m.kind, .int .i64 m.dom, .int .i64 m.seq, .int .i64 m.src, .int .i64 m.port, .int .i64 m.corr, .int .i64 m.time, .int .i64 m.tw, .int .i64 m.tp, .int .i64 m.rate, .int .i64 m.one, .int .i64 m.cls, .int .i64 m.two, .int .i64 m.id, .int .i64 m.steps, .slice pa n pc] _ (range_whole hW.box) Try.underlying58 rfl (by kernel_rfl) rfl⟩) h0 ?_
        simp only [List.setIfInBounds_toArray, List.set_cons_zero, List.set_cons_succ]
        refine hCallR (i := 18) (k := 28) (by kernel_rfl) rfl rfl (by rfl) 28 #[.agg #[.int .i64 m.kind, .int .i64 m.dom, .int .i64 m.seq, .int .i64 m.src, .int .i64 m.port, .int .i64 m.corr, .int .i64 m.time, .int .i64 m.tw, .int .i64 m.tp, .int .i64 m.rate, .int .i64 m.one, .int .i64 m.cls, .int .i64 m.two, .int .i64 m.id, .int .i64 m.steps, .slice pa n pc]] (by go_simp) (HCk.out _ h0.arg) ?_
        rintro e W5 ⟨rfl, hb⟩
        have k5 := h0.below hb
        clear hb
        refine ⟨_, rfl, k5, ?_⟩
        simp only [List.setIfInBounds_toArray, List.set_cons_zero, List.set_cons_succ]
        refine hTakeS (i := 19) (k := 29) (v := .bool true) rfl rfl (by kernel_rfl) (by kernel_rfl) (by kernel_rfl) (fun _ _ _ h => h) (yieldsIf_val (by rfl) (by intro W; go_simp)) k5 ?_
        simp only [List.setIfInBounds_toArray, List.set_cons_zero, List.set_cons_succ]
        refine hTakeS (i := 20) (k := 30) (v := .bool true) rfl rfl (by kernel_rfl) (by kernel_rfl) (by kernel_rfl) (fun _ _ _ h => h) (yieldsIf_val (by rfl) (by intro W; go_simp)) k5 ?_
        simp only [List.setIfInBounds_toArray, List.set_cons_zero, List.set_cons_succ]
        refine hTakeS (i := 21) (k := 9) (v := .bool true) rfl rfl (by kernel_rfl) (by kernel_rfl) (by kernel_rfl) (fun _ _ _ h => h) (yieldsIf_val (by rfl) (by intro W; go_simp)) k5 ?_
        simp only [List.setIfInBounds_toArray, List.set_cons_zero, List.set_cons_succ]
        refine wpAnyH_done (by kernel_rfl) ?_ _
        have HB := Lib.hid k5.bel
        clear h0 k5
        go_wp2_with fail
        go_ret
        exact ⟨by rw [HE.out]; rfl, by rw [HTE.out]; exact ⟨⟨us, HT.out.below HB.out⟩, ButB.of_below HB.out⟩⟩
    · have HE : Hid (t.inC at_ m = 23) := Lib.hid (by rw [HIC.out, if_neg (fun h => e2 h.2.1)])
      have HTE : Hid (t.inT at_ m now = t) := Lib.hid (by rw [HIT.out, HE.out, if_neg (by decide)])
      have d1 : (m.kind != 11) = false := by rw [e1]; rfl
      have d2 : (m.dom != t.dom) = true := by rw [bne_iff_ne]; exact e2
      clear e1 e2 HIC HIT
      go_enter Try.func27, Try.ntmps27
      go_upto_region 1 with fail
      generalize w.alloc (.cells #[.int .i64 m.kind, .int .i64 m.dom, .int .i64 m.seq, .int .i64 m.src, .int .i64 m.port, .int .i64 m.corr, .int .i64 m.time, .int .i64 m.tw, .int .i64 m.tp, .int .i64 m.rate, .int .i64 m.one, .int .i64 m.cls, .int .i64 m.two, .int .i64 m.id, .int .i64 m.steps, .slice pa n pc] 58) = W1 at *
      have h0 := H0.out.drew
      refine wp_region_held_drew (S := IS w b m (.slice pa n pc) t) (by kernel_rfl) h0 (fun h0 => ?_)
      refine hTakeS (i := 0) (k := 10) (v := .pointer (some ⟨b, 0, none⟩)) rfl rfl (by kernel_rfl) (by kernel_rfl) (by kernel_rfl) (fun _ _ _ h => h) (yieldsIf_val (by rfl) (by intro W; go_simp)) h0 ?_
      simp only [List.setIfInBounds_toArray, List.set_cons_zero, List.set_cons_succ]
      refine hTakeS (i := 1) (k := 11) (v := .bool false) rfl rfl (by kernel_rfl) (by kernel_rfl) (by kernel_rfl) (fun _ _ _ h => h) (yieldsIf_val (by rfl) (by intro W; go_simp)) h0 ?_
      simp only [List.setIfInBounds_toArray, List.set_cons_zero, List.set_cons_succ]
      refine hTakeS (i := 2) (k := 12) (v := .bool false) rfl rfl (by kernel_rfl) (by kernel_rfl) (by kernel_rfl) (fun _ _ _ h => h) (yieldsIf_val (by rfl) (by intro W; go_simp)) h0 ?_
      simp only [List.setIfInBounds_toArray, List.set_cons_zero, List.set_cons_succ]
      refine hTakeS (i := 3) (k := 13) (v := .pointer (some ⟨w.heap.size, 0, none⟩)) rfl rfl (by kernel_rfl) (by kernel_rfl) (by kernel_rfl) (fun _ _ _ h => h) (yieldsIf_val (by rfl) (by intro W; go_simp)) h0 ?_
      simp only [List.setIfInBounds_toArray, List.set_cons_zero, List.set_cons_succ]
      refine hTakeS (i := 4) (k := 14) (v := .int .i64 m.kind) rfl rfl (by kernel_rfl) (by kernel_rfl) (by kernel_rfl) (fun _ _ _ h => h) (.inl ⟨by rfl, fun W hW => by have c := hW.mc 0; rw [show (MC m (.slice pa n pc))[0]? = some (.int .i64 m.kind) from rfl] at c; go_simp⟩) h0 ?_
      simp only [List.setIfInBounds_toArray, List.set_cons_zero, List.set_cons_succ]
      refine hTakeS (i := 5) (k := 15) (v := .bool false) rfl rfl (by kernel_rfl) (by kernel_rfl) (by kernel_rfl) (fun _ _ _ h => h) (yieldsIf_val (by rfl) (by intro W; go_simp)) h0 ?_
      simp only [List.setIfInBounds_toArray, List.set_cons_zero, List.set_cons_succ]
      refine hTakeS (i := 6) (k := 16) (v := .bool false) rfl rfl (by kernel_rfl) (by kernel_rfl) (by kernel_rfl) (fun _ _ _ h => h) (yieldsIf_val (by rfl) (by intro W; go_simp)) h0 ?_
      simp only [List.setIfInBounds_toArray, List.set_cons_zero, List.set_cons_succ]
      refine hTakeS (i := 7) (k := 17) (v := .bool false) rfl rfl (by kernel_rfl) (by kernel_rfl) (by kernel_rfl) (fun _ _ _ h => h) (yieldsIf_val (by rfl) (by intro W; go_simp)) h0 ?_
      simp only [List.setIfInBounds_toArray, List.set_cons_zero, List.set_cons_succ]
      refine hTakeS (i := 8) (k := 18) (v := .pointer (some ⟨w.heap.size, 1, none⟩)) rfl rfl (by kernel_rfl) (by kernel_rfl) (by kernel_rfl) (fun _ _ _ h => h) (yieldsIf_val (by rfl) (by intro W; go_simp)) h0 ?_
      simp only [List.setIfInBounds_toArray, List.set_cons_zero, List.set_cons_succ]
      refine hTakeS (i := 9) (k := 19) (v := .int .i64 m.dom) rfl rfl (by kernel_rfl) (by kernel_rfl) (by kernel_rfl) (fun _ _ _ h => h) (.inl ⟨by rfl, fun W hW => by have c := hW.mc 1; rw [show (MC m (.slice pa n pc))[1]? = some (.int .i64 m.dom) from rfl] at c; go_simp⟩) h0 ?_
      simp only [List.setIfInBounds_toArray, List.set_cons_zero, List.set_cons_succ]
      refine hTakeS (i := 10) (k := 20) (v := .pointer (some ⟨b, 0, none⟩)) rfl rfl (by kernel_rfl) (by kernel_rfl) (by kernel_rfl) (fun _ _ _ h => h) (yieldsIf_val (by rfl) (by intro W; go_simp)) h0 ?_
      simp only [List.setIfInBounds_toArray, List.set_cons_zero, List.set_cons_succ]
      refine hTakeS (i := 11) (k := 21) (v := .pointer (some ⟨b, 0, none⟩)) rfl rfl (by kernel_rfl) (by kernel_rfl) (by kernel_rfl) (fun _ _ _ h => h) (yieldsIf_val (by rfl) (by intro W; go_simp)) h0 ?_
      simp only [List.setIfInBounds_toArray, List.set_cons_zero, List.set_cons_succ]
      refine hTakeS (i := 12) (k := 22) (v := .pointer (some ⟨b, 0, none⟩)) rfl rfl (by kernel_rfl) (by kernel_rfl) (by kernel_rfl) (fun _ _ _ h => h) (yieldsIf_val (by rfl) (by intro W; go_simp)) h0 ?_
      simp only [List.setIfInBounds_toArray, List.set_cons_zero, List.set_cons_succ]
      refine hTakeS (i := 13) (k := 23) (v := .int .i64 t.dom) rfl rfl (by kernel_rfl) (by kernel_rfl) (by kernel_rfl) (fun _ _ _ h => h) (.inl ⟨by rfl, fun W hW => by have c := hW.t0; go_simp⟩) h0 ?_
      simp only [List.setIfInBounds_toArray, List.set_cons_zero, List.set_cons_succ]
      refine hTakeS (i := 14) (k := 24) (v := .bool true) rfl rfl (by kernel_rfl) (by kernel_rfl) (by kernel_rfl) (fun _ _ _ h => h) (yieldsIf_val (by rfl) (by intro W; go_simp)) h0 ?_
      simp only [List.setIfInBounds_toArray, List.set_cons_zero, List.set_cons_succ]
      refine hTakeS (i := 15) (k := 25) (v := .bool true) rfl rfl (by kernel_rfl) (by kernel_rfl) (by kernel_rfl) (fun _ _ _ h => h) (yieldsIf_val (by rfl) (by intro W; go_simp)) h0 ?_
      simp only [List.setIfInBounds_toArray, List.set_cons_zero, List.set_cons_succ]
      refine hTakeS (i := 16) (k := 26) (v := .bool true) rfl rfl (by kernel_rfl) (by kernel_rfl) (by kernel_rfl) (fun _ _ _ h => h) (yieldsIf_val (by rfl) (by intro W; go_simp)) h0 ?_
      simp only [List.setIfInBounds_toArray, List.set_cons_zero, List.set_cons_succ]
      refine hTakeS (i := 17) (k := 27) (v := undef) rfl rfl (by kernel_rfl) (by kernel_rfl) (by kernel_rfl) (fun _ _ _ h => h) (yieldsIf_skip (by rfl)) h0 ?_
      simp only [List.setIfInBounds_toArray, List.set_cons_zero, List.set_cons_succ]
      refine hTakeS (i := 18) (k := 28) (v := undef) rfl rfl (by kernel_rfl) (by kernel_rfl) (by kernel_rfl) (fun _ _ _ h => h) (yieldsIf_skip (by rfl)) h0 ?_
      simp only [List.setIfInBounds_toArray, List.set_cons_zero, List.set_cons_succ]
      refine hTakeS (i := 19) (k := 29) (v := undef) rfl rfl (by kernel_rfl) (by kernel_rfl) (by kernel_rfl) (fun _ _ _ h => h) (yieldsIf_skip (by rfl)) h0 ?_
      simp only [List.setIfInBounds_toArray, List.set_cons_zero, List.set_cons_succ]
      refine hTakeS (i := 20) (k := 30) (v := .bool true) rfl rfl (by kernel_rfl) (by kernel_rfl) (by kernel_rfl) (fun _ _ _ h => h) (yieldsIf_val (by rfl) (by intro W; go_simp)) h0 ?_
      simp only [List.setIfInBounds_toArray, List.set_cons_zero, List.set_cons_succ]
      refine hTakeS (i := 21) (k := 9) (v := .bool true) rfl rfl (by kernel_rfl) (by kernel_rfl) (by kernel_rfl) (fun _ _ _ h => h) (yieldsIf_val (by rfl) (by intro W; go_simp)) h0 ?_
      simp only [List.setIfInBounds_toArray, List.set_cons_zero, List.set_cons_succ]
      refine wpAnyH_done (by kernel_rfl) ?_ _
      have HB := Lib.hid h0.bel
      clear h0
      go_wp2_with fail
      go_ret
      exact ⟨by rw [HE.out]; rfl, by rw [HTE.out]; exact ⟨⟨us, HT.out.below HB.out⟩, ButB.of_below HB.out⟩⟩
  · have HE : Hid (t.inC at_ m = 23) := Lib.hid (by rw [HIC.out, if_neg (fun h => e1 h.1)])
    have HTE : Hid (t.inT at_ m now = t) := Lib.hid (by rw [HIT.out, HE.out, if_neg (by decide)])
    have d1 : (m.kind != 11) = true := by rw [bne_iff_ne]; exact e1
    clear e1 HIC HIT
    go_enter Try.func27, Try.ntmps27
    go_upto_region 1 with fail
    generalize w.alloc (.cells #[.int .i64 m.kind, .int .i64 m.dom, .int .i64 m.seq, .int .i64 m.src, .int .i64 m.port, .int .i64 m.corr, .int .i64 m.time, .int .i64 m.tw, .int .i64 m.tp, .int .i64 m.rate, .int .i64 m.one, .int .i64 m.cls, .int .i64 m.two, .int .i64 m.id, .int .i64 m.steps, .slice pa n pc] 58) = W1 at *
    have h0 := H0.out.drew
    refine wp_region_held_drew (S := IS w b m (.slice pa n pc) t) (by kernel_rfl) h0 (fun h0 => ?_)
    refine hTakeS (i := 0) (k := 10) (v := .pointer (some ⟨b, 0, none⟩)) rfl rfl (by kernel_rfl) (by kernel_rfl) (by kernel_rfl) (fun _ _ _ h => h) (yieldsIf_val (by rfl) (by intro W; go_simp)) h0 ?_
    simp only [List.setIfInBounds_toArray, List.set_cons_zero, List.set_cons_succ]
    refine hTakeS (i := 1) (k := 11) (v := .bool false) rfl rfl (by kernel_rfl) (by kernel_rfl) (by kernel_rfl) (fun _ _ _ h => h) (yieldsIf_val (by rfl) (by intro W; go_simp)) h0 ?_
    simp only [List.setIfInBounds_toArray, List.set_cons_zero, List.set_cons_succ]
    refine hTakeS (i := 2) (k := 12) (v := .bool false) rfl rfl (by kernel_rfl) (by kernel_rfl) (by kernel_rfl) (fun _ _ _ h => h) (yieldsIf_val (by rfl) (by intro W; go_simp)) h0 ?_
    simp only [List.setIfInBounds_toArray, List.set_cons_zero, List.set_cons_succ]
    refine hTakeS (i := 3) (k := 13) (v := .pointer (some ⟨w.heap.size, 0, none⟩)) rfl rfl (by kernel_rfl) (by kernel_rfl) (by kernel_rfl) (fun _ _ _ h => h) (yieldsIf_val (by rfl) (by intro W; go_simp)) h0 ?_
    simp only [List.setIfInBounds_toArray, List.set_cons_zero, List.set_cons_succ]
    refine hTakeS (i := 4) (k := 14) (v := .int .i64 m.kind) rfl rfl (by kernel_rfl) (by kernel_rfl) (by kernel_rfl) (fun _ _ _ h => h) (.inl ⟨by rfl, fun W hW => by have c := hW.mc 0; rw [show (MC m (.slice pa n pc))[0]? = some (.int .i64 m.kind) from rfl] at c; go_simp⟩) h0 ?_
    simp only [List.setIfInBounds_toArray, List.set_cons_zero, List.set_cons_succ]
    refine hTakeS (i := 5) (k := 15) (v := .bool true) rfl rfl (by kernel_rfl) (by kernel_rfl) (by kernel_rfl) (fun _ _ _ h => h) (yieldsIf_val (by rfl) (by intro W; go_simp)) h0 ?_
    simp only [List.setIfInBounds_toArray, List.set_cons_zero, List.set_cons_succ]
    refine hTakeS (i := 6) (k := 16) (v := .bool true) rfl rfl (by kernel_rfl) (by kernel_rfl) (by kernel_rfl) (fun _ _ _ h => h) (yieldsIf_val (by rfl) (by intro W; go_simp)) h0 ?_
    simp only [List.setIfInBounds_toArray, List.set_cons_zero, List.set_cons_succ]
    refine hTakeS (i := 7) (k := 17) (v := .bool true) rfl rfl (by kernel_rfl) (by kernel_rfl) (by kernel_rfl) (fun _ _ _ h => h) (yieldsIf_val (by rfl) (by intro W; go_simp)) h0 ?_
    simp only [List.setIfInBounds_toArray, List.set_cons_zero, List.set_cons_succ]
    refine hTakeS (i := 8) (k := 18) (v := undef) rfl rfl (by kernel_rfl) (by kernel_rfl) (by kernel_rfl) (fun _ _ _ h => h) (yieldsIf_skip (by rfl)) h0 ?_
    simp only [List.setIfInBounds_toArray, List.set_cons_zero, List.set_cons_succ]
    refine hTakeS (i := 9) (k := 19) (v := undef) rfl rfl (by kernel_rfl) (by kernel_rfl) (by kernel_rfl) (fun _ _ _ h => h) (yieldsIf_skip (by rfl)) h0 ?_
    simp only [List.setIfInBounds_toArray, List.set_cons_zero, List.set_cons_succ]
    refine hTakeS (i := 10) (k := 20) (v := undef) rfl rfl (by kernel_rfl) (by kernel_rfl) (by kernel_rfl) (fun _ _ _ h => h) (yieldsIf_skip (by rfl)) h0 ?_
    simp only [List.setIfInBounds_toArray, List.set_cons_zero, List.set_cons_succ]
    refine hTakeS (i := 11) (k := 21) (v := undef) rfl rfl (by kernel_rfl) (by kernel_rfl) (by kernel_rfl) (fun _ _ _ h => h) (yieldsIf_skip (by rfl)) h0 ?_
    simp only [List.setIfInBounds_toArray, List.set_cons_zero, List.set_cons_succ]
    refine hTakeS (i := 12) (k := 22) (v := undef) rfl rfl (by kernel_rfl) (by kernel_rfl) (by kernel_rfl) (fun _ _ _ h => h) (yieldsIf_skip (by rfl)) h0 ?_
    simp only [List.setIfInBounds_toArray, List.set_cons_zero, List.set_cons_succ]
    refine hTakeS (i := 13) (k := 23) (v := undef) rfl rfl (by kernel_rfl) (by kernel_rfl) (by kernel_rfl) (fun _ _ _ h => h) (yieldsIf_skip (by rfl)) h0 ?_
    simp only [List.setIfInBounds_toArray, List.set_cons_zero, List.set_cons_succ]
    refine hTakeS (i := 14) (k := 24) (v := undef) rfl rfl (by kernel_rfl) (by kernel_rfl) (by kernel_rfl) (fun _ _ _ h => h) (yieldsIf_skip (by rfl)) h0 ?_
    simp only [List.setIfInBounds_toArray, List.set_cons_zero, List.set_cons_succ]
    refine hTakeS (i := 15) (k := 25) (v := .bool true) rfl rfl (by kernel_rfl) (by kernel_rfl) (by kernel_rfl) (fun _ _ _ h => h) (yieldsIf_val (by rfl) (by intro W; go_simp)) h0 ?_
    simp only [List.setIfInBounds_toArray, List.set_cons_zero, List.set_cons_succ]
    refine hTakeS (i := 16) (k := 26) (v := .bool true) rfl rfl (by kernel_rfl) (by kernel_rfl) (by kernel_rfl) (fun _ _ _ h => h) (yieldsIf_val (by rfl) (by intro W; go_simp)) h0 ?_
    simp only [List.setIfInBounds_toArray, List.set_cons_zero, List.set_cons_succ]
    refine hTakeS (i := 17) (k := 27) (v := undef) rfl rfl (by kernel_rfl) (by kernel_rfl) (by kernel_rfl) (fun _ _ _ h => h) (yieldsIf_skip (by rfl)) h0 ?_
    simp only [List.setIfInBounds_toArray, List.set_cons_zero, List.set_cons_succ]
    refine hTakeS (i := 18) (k := 28) (v := undef) rfl rfl (by kernel_rfl) (by kernel_rfl) (by kernel_rfl) (fun _ _ _ h => h) (yieldsIf_skip (by rfl)) h0 ?_
    simp only [List.setIfInBounds_toArray, List.set_cons_zero, List.set_cons_succ]
    refine hTakeS (i := 19) (k := 29) (v := undef) rfl rfl (by kernel_rfl) (by kernel_rfl) (by kernel_rfl) (fun _ _ _ h => h) (yieldsIf_skip (by rfl)) h0 ?_
    simp only [List.setIfInBounds_toArray, List.set_cons_zero, List.set_cons_succ]
    refine hTakeS (i := 20) (k := 30) (v := .bool true) rfl rfl (by kernel_rfl) (by kernel_rfl) (by kernel_rfl) (fun _ _ _ h => h) (yieldsIf_val (by rfl) (by intro W; go_simp)) h0 ?_
    simp only [List.setIfInBounds_toArray, List.set_cons_zero, List.set_cons_succ]
    refine hTakeS (i := 21) (k := 9) (v := .bool true) rfl rfl (by kernel_rfl) (by kernel_rfl) (by kernel_rfl) (fun _ _ _ h => h) (yieldsIf_val (by rfl) (by intro W; go_simp)) h0 ?_
    simp only [List.setIfInBounds_toArray, List.set_cons_zero, List.set_cons_succ]
    refine wpAnyH_done (by kernel_rfl) ?_ _
    have HB := Lib.hid h0.bel
    clear h0
    go_wp2_with fail
    go_ret
    exact ⟨by rw [HE.out]; rfl, by rw [HTE.out]; exact ⟨⟨us, HT.out.below HB.out⟩, ButB.of_below HB.out⟩⟩

end Go.Proofs.Ytholemjbjmkpkaa
