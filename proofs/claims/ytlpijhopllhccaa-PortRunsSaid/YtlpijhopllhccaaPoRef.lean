/- The reference's Check, phase and Turn. -/
import Derived.Test.YtlpijhopllhccaaPoPlain
namespace Go.Proofs.Ytlpijhopllhccaa
open Go.RowKit Go.Joins

/-- A list of the reference's in its box. -/
def RB (W : World) (k : Nat) (b c : Int) (sl : Value) : Prop := W.heap[k]? = some (.cells #[.int .i64 b, .int .i64 c, sl] 52 (0, 0))
theorem RB.new (w : World) (b c : Int) (sl : Value) : RB (w.alloc (.cells #[.int .i64 b, .int .i64 c, sl] 52)) w.heap.size b c sl := heap_alloc_one w _
theorem RB.below {w W : World} {k : Nat} {b c : Int} {sl : Value} (h : RB w k b c sl) (hb : Below w.heap.size w W) : RB W k b c sl := (hb.block k (lt_of_heap h)).trans h
theorem RB.cells {w : World} {k : Nat} {b c : Int} {sl : Value} (h : RB w k b c sl) : w.cell? ⟨k, 0, none⟩ = some (.int .i64 b) ∧ w.cell? ⟨k, 1, none⟩ = some (.int .i64 c) ∧ w.cell? ⟨k, 2, none⟩ = some sl := ⟨cell_of_row _ _ _ _ _ _ h, cell_of_row _ _ _ _ _ _ h, cell_of_row _ _ _ _ _ _ h⟩

end Go.Proofs.Ytlpijhopllhccaa
