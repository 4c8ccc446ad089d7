/- The reference's Decode, where nothing is read. -/
import Derived.Test.YtcdcklkbjfhhnaaPtRef8
import Derived.Test.YtcdcklkbjfhhnaaPtForm
namespace Go.Proofs.Ytcdcklkbjfhhnaa
open Go.RowKit Go.Joins

theorem at_storeS {ops : Array Oper} {rest : List Oper} {d : Option Tmp} {x y : Operand} {t : TypeId} {s : String} {af : Array Edge} {a : Act} {w : World} {Q : Exit → Act → World → Prop}
    (h : wpList Try.prog ops Q (⟨d, .store 38 x y, t, s, af, none⟩ :: rest) a w) : wpList Try.prog ops Q (⟨d, .store 38 x y, t, s, af, none⟩ :: rest) a w := h
theorem wpList_storeS {ops : Array Oper} {rest : List Oper} {o : Oper} {a : Act} {w : World} {Q : Exit → Act → World → Prop} (hgd : o.guard = none) (x y : Operand) (ho : o.op = .store 38 x y)
    (g : Nat) (cells : Array Value) (hx : a.eval x = .pointer (some ⟨g, 0, none⟩)) (hy : a.eval y = .agg cells) (h1 : cells.all (·.oneCell') = true) (hs : cells.size = 16)
    (old : Array Value) (hg : w.heap[g]? = some (.cells old 38 (0, 0))) (hold : old.size = 16)
    (h : wpList Try.prog ops Q rest (a.put o.dst undef) (w.setRow g cells)) : wpList Try.prog ops Q (o :: rest) a w :=
  wpList_store_row hgd 38 x y ho g cells hx hy 38 old hg (by rw [hs]; kernel_rfl) (by rw [hold, hs]) h1 h
theorem bodyS2 {fn : Func} {R : Ending → World → Prop} {a : Act} {w : World} {p u : Tmp} (h : fn.results = #[.cell p 38, .tmp u]) (g : Nat) (cells : Array Value) (x : Value) (hp : a.tmps.getD p undef = .pointer (some ⟨g, 0, none⟩)) (hu : a.tmps.getD u undef = x)
    (hg : w.heap[g]? = some (.cells cells 38 (0, 0))) (hs : cells.size = 16) (hd : a.defers = []) (hr : R (.returned (.tuple #[.agg cells, x])) w) : bodyPost Try.prog fn R Exit.ret a w := by
  refine bodyPost_ret (v := .tuple #[.agg cells, x]) ?_ hd hr
  rw [results_cell_tmp h, hp, hu]
  have h2 := run_loadVar_row (P := Try.prog) w g 38 38 cells (0, 0) _ hg Try.underlying38 rfl (by rw [hs]; kernel_rfl)
  simp [asAddr, h2]

/-- What the reference's Decode answers where something is wrong. -/
def NoMsg (w : World) (x : Nat) (e : Ending) (w' : World) : Prop := e = .returned (.tuple #[.agg (MC Mg.zero (.slice none 0 0)), .int .i64 (x : Int)]) ∧ Below w.heap.size w w'
set_option maxRecDepth 100000 in
theorem rdec_short (p : Option Addr) (n c : Nat) (w : World) (h : n < 20) : Calls Try.prog 17 #[.slice p n c] w (NoMsg w 20) := by
  have hd1 : decide ((n : Int) < 20) = true := decide_eq_true (by omega)
  clear h
  go_enter Try.func17, Try.ntmps17
  go_wp2_with (first
    | ((with_reducible refine at_buildR ?_); refine wpList_buildR rfl rfl ?_)
    | ((with_reducible refine at_storeS ?_); refine wpList_storeS rfl _ _ rfl w.heap.size ZC rfl rfl (MC_one Mg.zero none 0 0) rfl _ (heap_alloc_new w _) rfl ?_))
  refine bodyS2 rfl w.heap.size ZC _ rfl rfl (setRow_heap _ _ _ _ _ _ (heap_alloc_new w _)) rfl rfl ?_
  exact ⟨rfl, below_setRow (bAl (bRef w) _) (Nat.le_refl _) _⟩
theorem cell_ltS {w : World} {a : Addr} {v : Value} (h : w.cell? a = some v) : a.block < w.heap.size := by
  unfold World.cell? at h
  rcases Nat.lt_or_ge a.block w.heap.size with g | g
  · exact g
  · rw [Array.getElem?_eq_none g] at h; cases h
set_option maxRecDepth 100000 in
theorem rdec_byte (b o n c : Nat) (y : Int) (w : World) (h : 20 ≤ n) (hy : y < 16 ∨ (¬ y < 16 ∧ 31 < y)) (hcell : w.cell? ⟨b, o, none⟩ = some (.int .u8 y)) : Calls Try.prog 17 #[.slice (some ⟨b, o, none⟩) n c] w (NoMsg w 21) := by
  have hd1 : decide ((n : Int) < 20) = false := decide_eq_false (by omega)
  have hk := fun ob => (Below.cell (bAl (bRef w) ob) (cell_ltS hcell)).trans hcell
  have i0 : (0 : Int) < (n : Int) := by omega
  clear h
  rcases hy with hy | ⟨hy1, hy2⟩
  all_goals
    go_enter Try.func17, Try.ntmps17
    go_wp2_with (first
      | ((with_reducible refine at_buildR ?_); refine wpList_buildR rfl rfl ?_)
      | ((with_reducible refine at_storeS ?_); refine wpList_storeS rfl _ _ rfl w.heap.size ZC rfl rfl (MC_one Mg.zero none 0 0) rfl _ (heap_alloc_new w _) rfl ?_))
    refine bodyS2 rfl w.heap.size ZC _ rfl rfl (setRow_heap _ _ _ _ _ _ (heap_alloc_new w _)) rfl rfl ?_
    exact ⟨rfl, below_setRow (bAl (bRef w) _) (Nat.le_refl _) _⟩

end Go.Proofs.Ytcdcklkbjfhhnaa
