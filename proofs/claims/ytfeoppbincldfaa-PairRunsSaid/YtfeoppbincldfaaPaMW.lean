/- Laws at whole messages: loaded, stored, built, answered. -/
import Derived.Test.YtfeoppbincldfaaPaHand
import Derived.Test.YtfeoppbincldfaaPeChk
import Derived.Laws.ResultCell
import Derived.Laws.CopyOwn
namespace Go.Proofs.Ytfeoppbincldfaa
open Go.RowKit Go.Joins

theorem wpList_loadMG {ops : Array Oper} {rest : List Oper} {o : Oper} {a : Act} {w : World} {Q : Exit → Act → World → Prop} (hw : Region.wanted o (yielded ops a.tmps) = true) (x : Operand) (ho : o.op = .load 37 x)
    (g : Nat) (hx : a.eval x = .pointer (some ⟨g, 0, none⟩)) (cs : Array Value) (fr : Nat × Nat) (hg : w.heap[g]? = some (.cells cs 37 fr)) (hs : cs.size = 16)
    (h : wpList Try.prog ops Q rest (a.put o.dst (.agg cs)) w) : wpList Try.prog ops Q (o :: rest) a w :=
  BigFrame.wpList_want hw fun _ hK => wp_load_row 37 x ho g hx 37 cs fr _ hg Try.underlying37 rfl (by rw [hs]; kernel_rfl) (hK _ _ h)
theorem at_storeM {ops : Array Oper} {rest : List Oper} {d : Option Tmp} {x y : Operand} {t : TypeId} {s : String} {af : Array Edge} {a : Act} {w : World} {Q : Exit → Act → World → Prop}
    (h : wpList Try.prog ops Q (⟨d, .store 37 x y, t, s, af, none⟩ :: rest) a w) : wpList Try.prog ops Q (⟨d, .store 37 x y, t, s, af, none⟩ :: rest) a w := h
theorem wpList_storeM {ops : Array Oper} {rest : List Oper} {o : Oper} {a : Act} {w : World} {Q : Exit → Act → World → Prop} (hgd : o.guard = none) (x y : Operand) (ho : o.op = .store 37 x y)
    (g : Nat) (cells : Array Value) (hx : a.eval x = .pointer (some ⟨g, 0, none⟩)) (hy : a.eval y = .agg cells) (h1 : cells.all (·.oneCell') = true) (hs : cells.size = 16)
    (old : Array Value) (hg : w.heap[g]? = some (.cells old 37 (0, 0))) (hold : old.size = 16)
    (h : wpList Try.prog ops Q rest (a.put o.dst undef) (w.setRow g cells)) : wpList Try.prog ops Q (o :: rest) a w :=
  wpList_store_row hgd 37 x y ho g cells hx hy 37 old hg (by rw [hs]; kernel_rfl) (by rw [hold, hs]) h1 h
theorem setRow_newM (w : World) (cs cs' : Array Value) (t : TypeId) (fr : Nat × Nat) : (w.alloc (.cells cs t fr)).setRow w.heap.size cs' = w.alloc (.cells cs' t fr) := by
  have key : (w.heap.push (.cells cs t fr)).modify w.heap.size (fun | .cells _ elem frozen => .cells cs' elem frozen | o => o) = w.heap.push (.cells cs' t fr) := by
    apply Array.ext_getElem?
    intro i
    rw [Array.getElem?_modify]
    by_cases hi : w.heap.size = i
    · subst hi; simp
    · rw [if_neg hi, Array.getElem?_push, Array.getElem?_push, if_neg (fun e => hi e.symm), if_neg (fun e => hi e.symm)]
  exact congrArg (fun h => { w with heap := h }) key
theorem wpList_storeNM {ops : Array Oper} {rest : List Oper} {o : Oper} {a : Act} {w : World} {Q : Exit → Act → World → Prop} (hgd : o.guard = none) (x y : Operand) (ho : o.op = .store 37 x y) (g : Nat) (hg : g = w.heap.size)
    (cells old : Array Value) (hx : a.eval x = .pointer (some ⟨g, 0, none⟩)) (hy : a.eval y = .agg cells) (h1 : cells.all (·.oneCell') = true) (hs : cells.size = 16) (hold : old.size = 16)
    (h : wpList Try.prog ops Q rest (a.put o.dst undef) (w.alloc (.cells cells 37))) : wpList Try.prog ops Q (o :: rest) a (w.alloc (.cells old 37)) := by
  subst hg
  exact wpList_storeM hgd x y ho w.heap.size cells hx hy h1 hs old (heap_alloc_new w _) hold (by rw [setRow_newM]; exact h)

def ZC : Array Value := #[.int .i64 0, .int .i64 0, .int .i64 0, .int .i64 0, .int .i64 0, .int .i64 0, .int .i64 0, .int .i64 0, .int .i64 0, .int .i64 0, .int .i64 0, .int .i64 0, .int .i64 0, .int .i64 0, .int .i64 0, .slice none 0 0]
theorem Try.builtZ : Try.prog.built 37 [] = some ZC := by kernel_rfl
/-- No message, built. -/
theorem wpList_buildZ {ops : Array Oper} {rest : List Oper} {o : Oper} {a : Act} {w : World} {Q : Exit → Act → World → Prop} (hg : o.guard = none) (ho : o.op = .build 37 #[])
    (h : wpList Try.prog ops Q rest (a.put o.dst (.agg ZC)) w) : wpList Try.prog ops Q (o :: rest) a w := by
  refine wpList_build hg 37 #[] ho ?_ ?_
  · rw [Array.map_empty]
    show (Try.prog.built 37 []).isSome = true
    rw [Try.builtZ]; rfl
  · rw [Array.map_empty]
    show wpList Try.prog ops Q rest (a.put o.dst (.agg ((Try.prog.built 37 []).getD #[]))) w
    rw [Try.builtZ]; exact h
theorem at_buildZ {ops : Array Oper} {rest : List Oper} {d : Option Tmp} {t : TypeId} {s : String} {af : Array Edge} {a : Act} {w : World} {Q : Exit → Act → World → Prop}
    (h : wpList Try.prog ops Q (⟨d, .build 37 #[], t, s, af, none⟩ :: rest) a w) : wpList Try.prog ops Q (⟨d, .build 37 #[], t, s, af, none⟩ :: rest) a w := h
theorem MC_one (m : Mg) (p : Option Addr) (n c : Nat) : (MC m (.slice p n c)).all (·.oneCell') = true := by simp [MC, Value.oneCell']
theorem bodyM2 {fn : Func} {R : Ending → World → Prop} {a : Act} {w : World} {p u : Tmp} (h : fn.results = #[.cell p 37, .tmp u]) (g : Nat) (cells : Array Value) (x : Value) (hp : a.tmps.getD p undef = .pointer (some ⟨g, 0, none⟩)) (hu : a.tmps.getD u undef = x)
    (hg : w.heap[g]? = some (.cells cells 37 (0, 0))) (hs : cells.size = 16) (hd : a.defers = []) (hr : R (.returned (.tuple #[.agg cells, x])) w) : bodyPost Try.prog fn R Exit.ret a w := by
  refine bodyPost_ret (v := .tuple #[.agg cells, x]) ?_ hd hr
  rw [results_cell_tmp h, hp, hu]
  have h2 := run_loadVar_row (P := Try.prog) w g 37 37 cells (0, 0) _ hg Try.underlying37 rfl (by rw [hs]; kernel_rfl)
  simp [asAddr, h2]

theorem setRow_off (w : World) (g i : Nat) (cs : Array Value) (h : i ≠ g) : (w.setRow g cs).heap[i]? = w.heap[i]? := by
  unfold World.setRow
  simp only [Array.getElem?_modify]
  rw [if_neg (fun e => h e.symm)]
theorem setRow_siz (w : World) (g : Nat) (cs : Array Value) : (w.setRow g cs).heap.size = w.heap.size := by unfold World.setRow; simp

theorem wpList_buildG {ops : Array Oper} {rest : List Oper} {o : Oper} {a : Act} {w : World} {Q : Exit → Act → World → Prop} (hg : o.guard = none) (t : TypeId) (ps : Array (Nat × Operand)) (ho : o.op = .build t ps) (cs : Array Value)
    (hb : Try.prog.built t (ps.map fun (i, x) => (i, a.eval x)).toList = some cs) (h : wpList Try.prog ops Q rest (a.put o.dst (.agg cs)) w) : wpList Try.prog ops Q (o :: rest) a w := by
  refine wpList_build hg t ps ho ?_ ?_
  · rw [hb]; rfl
  · rw [hb]; exact h
theorem at_buildG {ops : Array Oper} {rest : List Oper} {d : Option Tmp} {t : TypeId} {s : String} {af : Array Edge} {a : Act} {w : World} {x : Array (Nat × Operand)} {Q : Exit → Act → World → Prop}
    (h : wpList Try.prog ops Q (⟨d, .build 37 x, t, s, af, none⟩ :: rest) a w) : wpList Try.prog ops Q (⟨d, .build 37 x, t, s, af, none⟩ :: rest) a w := h
theorem at_loadMG {ops : Array Oper} {rest : List Oper} {d : Option Tmp} {x : Operand} {t : TypeId} {s : String} {af : Array Edge} {gd : Option (Nat × Bool)} {a : Act} {w : World} {Q : Exit → Act → World → Prop}
    (h : wpList Try.prog ops Q (⟨d, .load 37 x, t, s, af, gd⟩ :: rest) a w) : wpList Try.prog ops Q (⟨d, .load 37 x, t, s, af, gd⟩ :: rest) a w := h
theorem build_opG (t : TypeId) (ps : Array (Nat × Operand)) {o : Oper} (ho : o.op = .build t ps) {a : Act} (cs : Array Value) (hb : Try.prog.built t (ps.map fun (i, x) => (i, a.eval x)).toList = some cs) (W : World) : (execOp a.eval o).run Try.prog W = .ok (.value (.agg cs)) W := by
  unfold execOp
  simp only [ho, Sem.run_bind, run_build W t _ cs hb, Result.andThen_ok]
  rfl
theorem store_opG (ty : TypeId) (x y : Operand) {o : Oper} (ho : o.op = .store ty x y) {a : Act} (g : Nat) (cells : Array Value) (hx : a.eval x = .pointer (some ⟨g, 0, none⟩)) (hy : a.eval y = .agg cells) (t : TypeId) (old : Array Value) (W : World)
    (hg : W.heap[g]? = some (.cells old t (0, 0))) (hi : (Try.prog.info? ty).map (·.size) = some cells.size) (hold : old.size = cells.size) (h1 : cells.all (·.oneCell') = true) : (execOp a.eval o).run Try.prog W = .ok .skip (W.setRow g cells) := by
  unfold execOp
  simp only [ho, hx, hy, Instr.storeAt, Instr.sureAddr, Sem.run_bind, Sem.run_pure, Result.andThen_ok, run_storeVar_row W g t ty old cells hg hi hold h1]
theorem lnil (w : World) : LArg w (.slice none 0 0) [] := ⟨fun x hx => by simp at hx, .inl ⟨rfl, none, 0, rfl, fun _ => rfl⟩⟩
theorem in64_0 : In64 0 := ⟨by decide, by decide⟩

end Go.Proofs.Ytfeoppbincldfaa
