/- Laws at whole structs: loaded, stored, built, answered. -/
import Derived.Test.YtihddpoaemhlnaaBtBeat
import Derived.Laws.Tables
import Derived.Laws.ResultCell
import Derived.Laws.CopyOwn
namespace Go.Proofs.Ytihddpoaemhlnaa
open Go.RowKit Go.Joins

theorem setRow_siz (w : World) (g : Nat) (cs : Array Value) : (w.setRow g cs).heap.size = w.heap.size := by unfold World.setRow; simp
theorem setRow_newM (w : World) (cs cs' : Array Value) (t : TypeId) (fr : Nat × Nat) : (w.alloc (.cells cs t fr)).setRow w.heap.size cs' = w.alloc (.cells cs' t fr) := by
  have key : (w.heap.push (.cells cs t fr)).modify w.heap.size (fun | .cells _ elem frozen => .cells cs' elem frozen | o => o) = w.heap.push (.cells cs' t fr) := by
    apply Array.ext_getElem?
    intro i
    rw [Array.getElem?_modify]
    by_cases hi : w.heap.size = i
    · subst hi; simp
    · rw [if_neg hi, Array.getElem?_push, Array.getElem?_push, if_neg (fun e => hi e.symm), if_neg (fun e => hi e.symm)]
  exact congrArg (fun h => { w with heap := h }) key
theorem bRow {w w' : World} (h : Below w.heap.size w w') (g : Nat) (hg : w.heap.size ≤ g) (cs : Array Value) : Below w.heap.size w (w'.setRow g cs) :=
  ⟨h.os, h.tape, h.output, by rw [setRow_siz]; exact h.size, fun k hk => (setRow_other w' g k cs (by omega)).trans (h.block k hk)⟩
section
variable {ops : Array Oper} {rest : List Oper} {o : Oper} {a : Act} {w : World} {Q : Exit → Act → World → Prop}
theorem wpList_loadW (hw : Region.wanted o (yielded ops a.tmps) = true) (ty : TypeId) (x : Operand) (ho : o.op = .load ty x) (b f : Nat) (hx : a.eval x = .pointer (some ⟨b, f, none⟩)) (cs : Array Value) (d : TypeDesc) (hc : w.rangeAt b f cs.toList)
    (hu : Try.prog.underlying ty = some d) (hd : d.isRow = true) (hi : (Try.prog.info? ty).map (·.size) = some cs.size) (h : wpList Try.prog ops Q rest (a.put o.dst (.agg cs)) w) : wpList Try.prog ops Q (o :: rest) a w :=
  BigFrame.wpList_want hw fun _ hK => wp_load_mid ty x ho b f hx cs.toList d hc hu hd (by simpa using hi) (hK _ _ h)
theorem wpList_storeNW (hgd : o.guard = none) (ty : TypeId) (x y : Operand) (ho : o.op = .store ty x y) (g : Nat) (hg : g = w.heap.size) (cells old : Array Value) (t : TypeId)
    (hx : a.eval x = .pointer (some ⟨g, 0, none⟩)) (hy : a.eval y = .agg cells) (h1 : cells.all (·.oneCell') = true) (hi : (Try.prog.info? ty).map (·.size) = some cells.size) (hold : old.size = cells.size)
    (h : wpList Try.prog ops Q rest (a.put o.dst undef) (w.alloc (.cells cells t))) : wpList Try.prog ops Q (o :: rest) a (w.alloc (.cells old t)) := by
  subst hg
  exact wpList_store_row hgd ty x y ho w.heap.size cells hx hy t old (heap_alloc_new w _) hi hold h1 (by rw [setRow_newM]; exact h)
theorem wpList_buildG (hg : o.guard = none) (t : TypeId) (ps : Array (Nat × Operand)) (ho : o.op = .build t ps) (cs : Array Value)
    (hb : Try.prog.built t (ps.map fun (i, x) => (i, a.eval x)).toList = some cs) (h : wpList Try.prog ops Q rest (a.put o.dst (.agg cs)) w) : wpList Try.prog ops Q (o :: rest) a w := by
  refine wpList_build hg t ps ho ?_ ?_
  · rw [hb]; rfl
  · rw [hb]; exact h
end
theorem bodyW {fn : Func} {R : Ending → World → Prop} {a : Act} {w : World} {p : Tmp} {ty : TypeId} (h : fn.results = #[.cell p ty]) (g : Nat) (cells : Array Value) (d : TypeDesc) (hp : a.tmps.getD p undef = .pointer (some ⟨g, 0, none⟩))
    (hg : w.heap[g]? = some (.cells cells ty (0, 0))) (hu : Try.prog.underlying ty = some d) (hd0 : d.isRow = true) (hs : (Try.prog.info? ty).map (·.size) = some cells.size) (hd : a.defers = []) (hr : R (.returned (.agg cells)) w) : bodyPost Try.prog fn R Exit.ret a w :=
  bodyPost_ret (results_cell_row h _ w g ty cells (0, 0) _ hp hg hu (by cases d <;> simp_all) hs) hd hr
theorem bodyW2 {fn : Func} {R : Ending → World → Prop} {a : Act} {w : World} {p u : Tmp} {ty : TypeId} (h : fn.results = #[.cell p ty, .tmp u]) (g : Nat) (cells : Array Value) (x : Value) (d : TypeDesc) (hp : a.tmps.getD p undef = .pointer (some ⟨g, 0, none⟩)) (hu : a.tmps.getD u undef = x)
    (hg : w.heap[g]? = some (.cells cells ty (0, 0))) (hun : Try.prog.underlying ty = some d) (hd0 : d.isRow = true) (hs : (Try.prog.info? ty).map (·.size) = some cells.size) (hd : a.defers = []) (hr : R (.returned (.tuple #[.agg cells, x])) w) : bodyPost Try.prog fn R Exit.ret a w := by
  refine bodyPost_ret (v := .tuple #[.agg cells, x]) ?_ hd hr
  rw [results_cell_tmp h, hp, hu]
  have h2 := run_loadVar_row (P := Try.prog) w g ty ty cells (0, 0) _ hg hun (by cases d <;> simp_all) hs
  simp [asAddr, h2]
section
variable {ops : Array Oper} {rest : List Oper} {d : Option Tmp} {x y : Operand} {xs : Array (Nat × Operand)} {t : TypeId} {s : String} {af : Array Edge} {gd : Option (Nat × Bool)} {a : Act} {w : World} {Q : Exit → Act → World → Prop}
theorem at_loadP (h : wpList Try.prog ops Q (⟨d, .load 23 x, t, s, af, gd⟩ :: rest) a w) : wpList Try.prog ops Q (⟨d, .load 23 x, t, s, af, gd⟩ :: rest) a w := h
theorem at_storeP (h : wpList Try.prog ops Q (⟨d, .store 23 x y, t, s, af, none⟩ :: rest) a w) : wpList Try.prog ops Q (⟨d, .store 23 x y, t, s, af, none⟩ :: rest) a w := h
theorem at_buildP (h : wpList Try.prog ops Q (⟨d, .build 23 xs, t, s, af, none⟩ :: rest) a w) : wpList Try.prog ops Q (⟨d, .build 23 xs, t, s, af, none⟩ :: rest) a w := h
theorem at_loadV (h : wpList Try.prog ops Q (⟨d, .load 25 x, t, s, af, gd⟩ :: rest) a w) : wpList Try.prog ops Q (⟨d, .load 25 x, t, s, af, gd⟩ :: rest) a w := h
theorem at_storeV (h : wpList Try.prog ops Q (⟨d, .store 25 x y, t, s, af, none⟩ :: rest) a w) : wpList Try.prog ops Q (⟨d, .store 25 x y, t, s, af, none⟩ :: rest) a w := h
theorem at_buildV (h : wpList Try.prog ops Q (⟨d, .build 25 xs, t, s, af, none⟩ :: rest) a w) : wpList Try.prog ops Q (⟨d, .build 25 xs, t, s, af, none⟩ :: rest) a w := h
theorem at_loadH (h : wpList Try.prog ops Q (⟨d, .load 37 x, t, s, af, gd⟩ :: rest) a w) : wpList Try.prog ops Q (⟨d, .load 37 x, t, s, af, gd⟩ :: rest) a w := h
theorem at_storeH (h : wpList Try.prog ops Q (⟨d, .store 37 x y, t, s, af, none⟩ :: rest) a w) : wpList Try.prog ops Q (⟨d, .store 37 x y, t, s, af, none⟩ :: rest) a w := h
theorem at_buildH (h : wpList Try.prog ops Q (⟨d, .build 37 xs, t, s, af, none⟩ :: rest) a w) : wpList Try.prog ops Q (⟨d, .build 37 xs, t, s, af, none⟩ :: rest) a w := h
theorem at_loadR (h : wpList Try.prog ops Q (⟨d, .load 30 x, t, s, af, gd⟩ :: rest) a w) : wpList Try.prog ops Q (⟨d, .load 30 x, t, s, af, gd⟩ :: rest) a w := h
theorem at_storeR (h : wpList Try.prog ops Q (⟨d, .store 30 x y, t, s, af, none⟩ :: rest) a w) : wpList Try.prog ops Q (⟨d, .store 30 x y, t, s, af, none⟩ :: rest) a w := h
theorem at_buildR (h : wpList Try.prog ops Q (⟨d, .build 30 xs, t, s, af, none⟩ :: rest) a w) : wpList Try.prog ops Q (⟨d, .build 30 xs, t, s, af, none⟩ :: rest) a w := h
theorem at_loadK (h : wpList Try.prog ops Q (⟨d, .load 39 x, t, s, af, gd⟩ :: rest) a w) : wpList Try.prog ops Q (⟨d, .load 39 x, t, s, af, gd⟩ :: rest) a w := h
theorem at_storeK (h : wpList Try.prog ops Q (⟨d, .store 39 x y, t, s, af, none⟩ :: rest) a w) : wpList Try.prog ops Q (⟨d, .store 39 x y, t, s, af, none⟩ :: rest) a w := h
theorem at_buildK (h : wpList Try.prog ops Q (⟨d, .build 39 xs, t, s, af, none⟩ :: rest) a w) : wpList Try.prog ops Q (⟨d, .build 39 xs, t, s, af, none⟩ :: rest) a w := h
end

end Go.Proofs.Ytihddpoaemhlnaa
