/- Regions by hand; laws at whole structs, for a seat without package best. Written by gen_mr.py. -/
import Derived.Test.YtjkgeoipkcjobaaMtMem
import Derived.Test.YtjkgeoipkcjobaaMdRef
import Derived.OrdersHeld
import Derived.Deep.RegionHeld
import Derived.Deep.RegionHeld3
import Derived.Laws.Tables
import Derived.Laws.ResultCell
import Derived.Laws.CopyOwn
import Derived.Deep.MidRow
namespace Go.Proofs.Ytjkgeoipkcjobaa
open Go.RowKit Go.Joins Go.Deep

section
variable {ops : Array Oper} {Q : Exit → Act → World → Prop} {S : World → Prop} {fuel : Nat} {listed : Array Bool} {a : Act} {w : World}
theorem put_some {a : Act} (k : Nat) (v : Value) (d : Option Tmp) (hd : d = some k) : a.put d v = { a with tmps := a.tmps.setIfInBounds k v } := by subst hd; rfl
/-- An operation that yields in whatever world meets S is taken first. -/
theorem hTakeS {i k : Nat} {o : Oper} {v : Value} (hi : ops[i]? = some o) (hd : o.dst = some k) (hs : Region.noSelect ops = true) (hf : Region.free .any ops listed i = true) (hr : (Region.ready .any ops listed).contains i = true)
    (hQ : ∀ c a w, Q (.panic c) (a.put o.dst v) w → Q (.panic c) a w) (hy : YieldsIf Try.prog ops S o v a) (hS : S w)
    (h : wpAnyH Try.prog .any ops Q S fuel (listed.setIfInBounds i true) { a with tmps := a.tmps.setIfInBounds k v } w) : wpAnyH Try.prog .any ops Q S (fuel + 1) listed a w :=
  wpAnyH_take hi hs hf hr hQ hy hS (by rw [put_some k v _ hd]; exact h)
theorem yieldsIf_val {o : Oper} {v : Value} (hw : Region.wanted o (yielded ops a.tmps) = true) (h : ∀ W, (execOp a.eval o).run Try.prog W = .ok (.value v) W) : YieldsIf Try.prog ops S o v a := .inl ⟨hw, fun W _ => h W⟩
theorem yieldsIf_skip {o : Oper} (hw : Region.wanted o (yielded ops a.tmps) = false) : YieldsIf Try.prog ops S o undef a := .inr ⟨hw, rfl⟩
/-- The one operation that may come up now. -/
theorem hOneS {i k : Nat} {o : Oper} {v : Value} {w' : World} (hr : Region.ready .any ops listed = [i]) (ho : ops[i]? = some o) (hd : o.dst = some k) (hw : Region.wanted o (yielded ops a.tmps) = true) (hx : (execOp a.eval o).run Try.prog w = .ok (.value v) w') (hS : S w')
    (h : wpAnyH Try.prog .any ops Q S fuel (listed.setIfInBounds i true) { a with tmps := a.tmps.setIfInBounds k v } w') : wpAnyH Try.prog .any ops Q S (fuel + 1) listed a w := by
  refine wpAnyH_ready hr (by simp) (AllReadyH.cons ho (fun K hK => ?_) AllReadyH.nil)
  rw [if_pos hw]
  unfold Oper.wp
  rw [hx]
  exact hK _ _ hS (fun _ => by rw [put_some k v _ hd]; exact h)
theorem hOneNS {i : Nat} {o : Oper} {w' : World} (hr : Region.ready .any ops listed = [i]) (ho : ops[i]? = some o) (hd : o.dst = none) (hw : Region.wanted o (yielded ops a.tmps) = true) (hx : (execOp a.eval o).run Try.prog w = .ok .skip w') (hS : S w')
    (h : wpAnyH Try.prog .any ops Q S fuel (listed.setIfInBounds i true) a w') : wpAnyH Try.prog .any ops Q S (fuel + 1) listed a w := by
  refine wpAnyH_ready hr (by simp) (AllReadyH.cons ho (fun K hK => ?_) AllReadyH.nil)
  rw [if_pos hw]
  unfold Oper.wp
  rw [hx]
  exact hK _ _ hS (fun _ => by rw [hd]; exact h)
/-- A call, where nothing else may come up. -/
theorem hCallR {i k : Nat} {o : Oper} (hr : Region.ready .any ops listed = [i]) (ho : ops[i]? = some o) (hd : o.dst = some k) (hw : Region.wanted o (yielded ops a.tmps) = true) (f : FuncId) (args : Array Value)
    (hx : (execOp a.eval o).run Try.prog w = .ok (.enter f args) w) {R : Ending → World → Prop} (hc : Calls Try.prog f args w R)
    (h : ∀ e W', R e W' → ∃ v, e = .returned v ∧ S W' ∧ wpAnyH Try.prog .any ops Q S fuel (listed.setIfInBounds i true) { a with tmps := a.tmps.setIfInBounds k v } W') : wpAnyH Try.prog .any ops Q S (fuel + 1) listed a w := by
  refine wpAnyH_ready hr (by simp) (AllReadyH.cons ho (fun K hK => ?_) AllReadyH.nil)
  rw [if_pos hw]
  unfold Oper.wp
  rw [hx]
  refine hc.mono fun e W' hh => ?_
  obtain ⟨v, rfl, hS', hk⟩ := h e W' hh
  exact hK _ _ hS' (fun _ => by rw [put_some k v _ hd]; exact hk)
/-- A call, or an operation that yields. -/
theorem hCallOr {i j k m : Nat} {o p : Oper} {u : Value} {w2 : World} (hr : Region.ready .any ops listed = [i, j]) (ho : ops[i]? = some o) (hp : ops[j]? = some p) (hd : o.dst = some k) (hd2 : p.dst = some m) (hw : Region.wanted o (yielded ops a.tmps) = true) (hw2 : Region.wanted p (yielded ops a.tmps) = true) (f : FuncId) (args : Array Value)
    (hx : (execOp a.eval o).run Try.prog w = .ok (.enter f args) w) {R : Ending → World → Prop} (hc : Calls Try.prog f args w R)
    (hx2 : (execOp a.eval p).run Try.prog w = .ok (.value u) w2) (hS2 : S w2)
    (h : ∀ e W', R e W' → ∃ v, e = .returned v ∧ S W' ∧ wpAnyH Try.prog .any ops Q S fuel (listed.setIfInBounds i true) { a with tmps := a.tmps.setIfInBounds k v } W')
    (h2 : wpAnyH Try.prog .any ops Q S fuel (listed.setIfInBounds j true) { a with tmps := a.tmps.setIfInBounds m u } w2) : wpAnyH Try.prog .any ops Q S (fuel + 1) listed a w := by
  refine wpAnyH_ready hr (by simp) (AllReadyH.cons ho (fun K hK => ?_) (AllReadyH.cons hp (fun K hK => ?_) AllReadyH.nil))
  · rw [if_pos hw]
    unfold Oper.wp
    rw [hx]
    refine hc.mono fun e W' hh => ?_
    obtain ⟨v, rfl, hS', hk⟩ := h e W' hh
    exact hK _ _ hS' (fun _ => by rw [put_some k v _ hd]; exact hk)
  · rw [if_pos hw2]
    unfold Oper.wp
    rw [hx2]
    exact hK _ _ hS2 (fun _ => by rw [put_some m u _ hd2]; exact h2)
end

theorem setRow_siz (w : World) (g : Nat) (cs : Array Value) : (w.setRow g cs).heap.size = w.heap.size := by unfold World.setRow; simp
theorem setRow_newM (w : World) (cs cs' : Array Value) (t : TypeId) (fr : Nat × Nat) : (w.alloc (.cells cs t fr)).setRow w.heap.size cs' = w.alloc (.cells cs' t fr) := by
  have key : (w.heap.push (.cells cs t fr)).modify w.heap.size (fun | .cells _ elem frozen => .cells cs' elem frozen | o => o) = w.heap.push (.cells cs' t fr) := by
    apply Array.ext_getElem?
    intro i
    rw [Array.getElem?_modify]
    by_cases hi : w.heap.size = i
    · subst hi; simp
    · rw [if_neg hi, Array.getElem?_push, Array.getElem?_push, if_neg (fun e => hi e.symm), if_neg (fun e => hi e.symm)]
  exact congrArg (fun h => { w with heap := h }) key
theorem bRow {w w' : World} (h : Below w.heap.size w w') (g : Nat) (hg : w.heap.size ≤ g) (cs : Array Value) : Below w.heap.size w (w'.setRow g cs) :=
  ⟨h.os, h.tape, h.output, by rw [setRow_siz]; exact h.size, fun k hk => (setRow_other w' g k cs (by omega)).trans (h.block k hk)⟩
section
variable {ops : Array Oper} {rest : List Oper} {o : Oper} {a : Act} {w : World} {Q : Exit → Act → World → Prop}
theorem wpList_loadW (hw : Region.wanted o (yielded ops a.tmps) = true) (ty : TypeId) (x : Operand) (ho : o.op = .load ty x) (b f : Nat) (hx : a.eval x = .pointer (some ⟨b, f, none⟩)) (cs : Array Value) (d : TypeDesc) (hc : w.rangeAt b f cs.toList)
    (hu : Try.prog.underlying ty = some d) (hd : d.isRow = true) (hi : (Try.prog.info? ty).map (·.size) = some cs.size) (h : wpList Try.prog ops Q rest (a.put o.dst (.agg cs)) w) : wpList Try.prog ops Q (o :: rest) a w :=
  BigFrame.wpList_want hw fun _ hK => wp_load_mid ty x ho b f hx cs.toList d hc hu hd (by simpa using hi) (hK _ _ h)
theorem wpList_storeNW (hgd : o.guard = none) (ty : TypeId) (x y : Operand) (ho : o.op = .store ty x y) (g : Nat) (hg : g = w.heap.size) (cells old : Array Value) (t : TypeId)
    (hx : a.eval x = .pointer (some ⟨g, 0, none⟩)) (hy : a.eval y = .agg cells) (h1 : cells.all (·.oneCell') = true) (hi : (Try.prog.info? ty).map (·.size) = some cells.size) (hold : old.size = cells.size)
    (h : wpList Try.prog ops Q rest (a.put o.dst undef) (w.alloc (.cells cells t))) : wpList Try.prog ops Q (o :: rest) a (w.alloc (.cells old t)) := by
  subst hg
  exact wpList_store_row hgd ty x y ho w.heap.size cells hx hy t old (heap_alloc_new w _) hi hold h1 (by rw [setRow_newM]; exact h)
theorem wpList_buildG (hg : o.guard = none) (t : TypeId) (ps : Array (Nat × Operand)) (ho : o.op = .build t ps) (cs : Array Value)
    (hb : Try.prog.built t (ps.map fun (i, x) => (i, a.eval x)).toList = some cs) (h : wpList Try.prog ops Q rest (a.put o.dst (.agg cs)) w) : wpList Try.prog ops Q (o :: rest) a w := by
  refine wpList_build hg t ps ho ?_ ?_
  · rw [hb]; rfl
  · rw [hb]; exact h
end
theorem bodyW {fn : Func} {R : Ending → World → Prop} {a : Act} {w : World} {p : Tmp} {ty : TypeId} (h : fn.results = #[.cell p ty]) (g : Nat) (cells : Array Value) (d : TypeDesc) (hp : a.tmps.getD p undef = .pointer (some ⟨g, 0, none⟩))
    (hg : w.heap[g]? = some (.cells cells ty (0, 0))) (hu : Try.prog.underlying ty = some d) (hd0 : d.isRow = true) (hs : (Try.prog.info? ty).map (·.size) = some cells.size) (hd : a.defers = []) (hr : R (.returned (.agg cells)) w) : bodyPost Try.prog fn R Exit.ret a w :=
  bodyPost_ret (results_cell_row h _ w g ty cells (0, 0) _ hp hg hu (by cases d <;> simp_all) hs) hd hr
theorem bodyW2 {fn : Func} {R : Ending → World → Prop} {a : Act} {w : World} {p u : Tmp} {ty : TypeId} (h : fn.results = #[.cell p ty, .tmp u]) (g : Nat) (cells : Array Value) (x : Value) (d : TypeDesc) (hp : a.tmps.getD p undef = .pointer (some ⟨g, 0, none⟩)) (hu : a.tmps.getD u undef = x)
    (hg : w.heap[g]? = some (.cells cells ty (0, 0))) (hun : Try.prog.underlying ty = some d) (hd0 : d.isRow = true) (hs : (Try.prog.info? ty).map (·.size) = some cells.size) (hd : a.defers = []) (hr : R (.returned (.tuple #[.agg cells, x])) w) : bodyPost Try.prog fn R Exit.ret a w := by
  refine bodyPost_ret (v := .tuple #[.agg cells, x]) ?_ hd hr
  rw [results_cell_tmp h, hp, hu]
  have h2 := run_loadVar_row (P := Try.prog) w g ty ty cells (0, 0) _ hg hun (by cases d <;> simp_all) hs
  simp [asAddr, h2]
theorem loadOp {a : Act} {o : Oper} {W : World} (ty : TypeId) (x : Operand) (ho : o.op = .load ty x) (b f : Nat) (cs : Array Value) (d : TypeDesc) (hc : W.rangeAt b f cs.toList) (hu : Try.prog.underlying ty = some d) (hd : d.isRow = true) (hi : (Try.prog.info? ty).map (·.size) = some cs.size) (hx : a.eval x = .pointer (some ⟨b, f, none⟩)) : (execOp a.eval o).run Try.prog W = .ok (.value (.agg cs)) W := by
  have k := run_loadAt_mid (P := Try.prog) W b f ty cs.toList _ hc hu hd (by simpa using hi)
  unfold execOp
  simp only [ho, hx]
  rw [Sem.run_bind, k]
  rfl
theorem buildOp (t : TypeId) (ps : Array (Nat × Operand)) {o : Oper} (ho : o.op = .build t ps) {a : Act} (cs : Array Value) (hb : Try.prog.built t (ps.map fun (i, x) => (i, a.eval x)).toList = some cs) (W : World) : (execOp a.eval o).run Try.prog W = .ok (.value (.agg cs)) W := by
  unfold execOp
  simp only [ho, Sem.run_bind, run_build W t _ cs hb, Result.andThen_ok]
  rfl

theorem results_cell_tmp2 {fn : Func} {p u q : Tmp} {ty : TypeId} (h : fn.results = #[.cell p ty, .tmp u, .tmp q]) (tmps : Array Value) (P : Program) (w : World) :
    (results fn tmps).run P w =
      ((asAddr (tmps.getD p undef)).run P w).andThen fun a w₁ => ((loadVar ty a).run P w₁).andThen fun v w₂ => .ok (.tuple #[v, tmps.getD u undef, tmps.getD q undef]) w₂ := by
  simp only [results, h]
  simp [Sem.run_bind, Result.andThen]
theorem bodyW3 {fn : Func} {R : Ending → World → Prop} {a : Act} {w : World} {p u q : Tmp} {ty : TypeId} (h : fn.results = #[.cell p ty, .tmp u, .tmp q]) (g : Nat) (cells : Array Value) (x y : Value) (d : TypeDesc) (hp : a.tmps.getD p undef = .pointer (some ⟨g, 0, none⟩)) (hu : a.tmps.getD u undef = x) (hq : a.tmps.getD q undef = y)
    (hg : w.heap[g]? = some (.cells cells ty (0, 0))) (hun : Try.prog.underlying ty = some d) (hd0 : d.isRow = true) (hs : (Try.prog.info? ty).map (·.size) = some cells.size) (hd : a.defers = []) (hr : R (.returned (.tuple #[.agg cells, x, y])) w) : bodyPost Try.prog fn R Exit.ret a w := by
  refine bodyPost_ret (v := .tuple #[.agg cells, x, y]) ?_ hd hr
  rw [results_cell_tmp2 h, hp, hu, hq]
  have h2 := run_loadVar_row (P := Try.prog) w g ty ty cells (0, 0) _ hg hun (by cases d <;> simp_all) hs
  simp [asAddr, h2]
theorem range_of_row {W : World} {b : Nat} {cs : Array Value} {t : TypeId} {fr : Nat × Nat} (hg : W.heap[b]? = some (.cells cs t fr)) (o : Nat) (l : List Value) (h : ∀ j v, l[j]? = some v → cs[o + j]? = some v) : W.rangeAt b o l := fun j v hj => (cell_of_row W b (o + j) _ _ _ hg).trans (h j v hj)
theorem range_whole {W : World} {b : Nat} {cs : Array Value} {t : TypeId} {fr : Nat × Nat} (hg : W.heap[b]? = some (.cells cs t fr)) : W.rangeAt b 0 cs.toList := range_of_row hg 0 _ (fun j v h => by rw [Nat.zero_add]; simpa using h)
section
variable {ops : Array Oper} {rest : List Oper} {d : Option Tmp} {x y : Operand} {xs : Array (Nat × Operand)} {t : TypeId} {s : String} {af : Array Edge} {gd : Option (Nat × Bool)} {a : Act} {w : World} {Q : Exit → Act → World → Prop}
theorem at_loadRM (h : wpList Try.prog ops Q (⟨d, .load 39 x, t, s, af, gd⟩ :: rest) a w) : wpList Try.prog ops Q (⟨d, .load 39 x, t, s, af, gd⟩ :: rest) a w := h
theorem at_storeRM (h : wpList Try.prog ops Q (⟨d, .store 39 x y, t, s, af, none⟩ :: rest) a w) : wpList Try.prog ops Q (⟨d, .store 39 x y, t, s, af, none⟩ :: rest) a w := h
theorem at_loadMC (h : wpList Try.prog ops Q (⟨d, .load 23 x, t, s, af, gd⟩ :: rest) a w) : wpList Try.prog ops Q (⟨d, .load 23 x, t, s, af, gd⟩ :: rest) a w := h
theorem at_loadST (h : wpList Try.prog ops Q (⟨d, .load 42 x, t, s, af, gd⟩ :: rest) a w) : wpList Try.prog ops Q (⟨d, .load 42 x, t, s, af, gd⟩ :: rest) a w := h
theorem at_storeST (h : wpList Try.prog ops Q (⟨d, .store 42 x y, t, s, af, none⟩ :: rest) a w) : wpList Try.prog ops Q (⟨d, .store 42 x y, t, s, af, none⟩ :: rest) a w := h
end

end Go.Proofs.Ytjkgeoipkcjobaa
