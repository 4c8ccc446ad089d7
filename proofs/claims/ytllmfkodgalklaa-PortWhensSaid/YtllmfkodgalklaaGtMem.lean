/- Slots that are read: where they lie. -/
import Derived.Test.YtllmfkodgalklaaGtMath
import Derived.Below
import Derived.WalkKit
import Derived.WalkMore
import Derived.BigQuiet
import Derived.Lib.Hide
import Derived.Lib.Small
import Derived.Lib.SmallJoins
import Derived.Deep.DeepCutAuto
import Derived.OrdersHeld
import Derived.Deep.RegionHeld
namespace Go.Proofs.Ytllmfkodgalklaa
open Go.RowKit Go.Joins

theorem bAl {w w' : World} (h : Below w.heap.size w w') (o : Obj) : Below w.heap.size w (w'.alloc o) := h.alloc h.size o
theorem bDr {w w' : World} (h : Below w.heap.size w w') (n : Nat) : Below w.heap.size w (w'.drewN n) := ⟨h.os, h.tape, h.output, h.size, h.block⟩
theorem bDr1 {B : Nat} {w w' : World} (h : Below B w w') : Below B w w'.drew := ⟨h.os, h.tape, h.output, h.size, h.block⟩
theorem bTr {w w1 w2 : World} (h : Below w.heap.size w w1) (k : Below w1.heap.size w1 w2) : Below w.heap.size w w2 := h.trans (k.mono h.size)
theorem bSet {w w' : World} (h : Below w.heap.size w w') (p : Addr) (hp : w.heap.size ≤ p.block) (v : Value) : Below w.heap.size w (w'.setCell p v) := h.setCell hp v
theorem bRef (w : World) : Below w.heap.size w w := Below.refl _ _
theorem heap_alloc_one (w : World) (o : Obj) : (w.alloc o).heap[w.heap.size]? = some o := by unfold World.alloc; simp
theorem lt_of_heap {w : World} {k : Nat} {o : Obj} (h : w.heap[k]? = some o) : k < w.heap.size := by
  rcases Nat.lt_or_ge k w.heap.size with g | g
  · exact g
  · rw [Array.getElem?_eq_none g] at h; cases h

/-- The call answers so, and leaves all that was there. -/
def Ret (f : Nat) (args : Array Value) (v : Value) : Prop := ∀ w, Calls Try.prog f args w fun e w' => e = .returned v ∧ Below w.heap.size w w'
theorem Ret.go {f : Nat} {args : Array Value} {v : Value} (h : Ret f args v) (w : World) : Calls Try.prog f args w fun e w' => e = .returned v ∧ Below w.heap.size w w' := h w
def RetQ (f : Nat) (args : Array Value) (v : Value) : Prop := ∀ w, Calls Try.prog f args w fun e w' => e = .returned v ∧ w = w'
theorem RetQ.go {f : Nat} {args : Array Value} {v : Value} (h : RetQ f args v) (w : World) : Calls Try.prog f args w fun e w' => e = .returned v ∧ w = w' := h w

def In64 (x : Int) : Prop := -9223372036854775808 ≤ x ∧ x < 9223372036854775808
def RdT (w : World) (b o : Nat) (ts : List (Int × Int)) : Prop :=
  b < w.heap.size ∧ ∀ k, k < ts.length → w.cell? ⟨b, o + k * 2, none⟩ = some (.int .i64 (tA ts k)) ∧ w.cell? ⟨b, o + k * 2 + 1, none⟩ = some (.int .i64 (tR ts k))
def Ints (ts : List (Int × Int)) : Prop := ∀ k, k < ts.length → In64 (tA ts k) ∧ In64 (tR ts k)
/-- The value's elements are these slots. -/
def TArg (w : World) (v : Value) (ts : List (Int × Int)) : Prop :=
  Ints ts ∧ ((ts = [] ∧ ∃ a c, v = .slice a 0 c ∧ (a = none → c = 0)) ∨ (0 < ts.length ∧ ∃ b o c, v = .slice (some ⟨b, o, none⟩) ts.length c ∧ ts.length ≤ c ∧ RdT w b o ts))
section
variable {w w' : World} {b o : Nat} {v : Value} {ts : List (Int × Int)}
theorem RdT.below (h : RdT w b o ts) (hb : Below w.heap.size w w') : RdT w' b o ts :=
  ⟨Nat.lt_of_lt_of_le h.1 hb.size, fun k hk => ⟨(hb.cell h.1).trans (h.2 k hk).1, (hb.cell h.1).trans (h.2 k hk).2⟩⟩
theorem TArg.below (h : TArg w v ts) (hb : Below w.heap.size w w') : TArg w' v ts := by
  obtain ⟨h1, h2⟩ := h
  refine ⟨h1, ?_⟩
  rcases h2 with h2 | ⟨h3, b, o, c, e, hc, hr⟩
  · exact .inl h2
  · exact .inr ⟨h3, b, o, c, e, hc, hr.below hb⟩
theorem TArg.slice (h : TArg w v ts) : ∃ p c, v = .slice p ts.length c := by
  rcases h.2 with ⟨rfl, p, c, rfl, _⟩ | ⟨_, b, o, c, rfl, _⟩
  · exact ⟨p, c, rfl⟩
  · exact ⟨_, c, rfl⟩
theorem TArg.at (h : TArg w v ts) (h0 : 0 < ts.length) : ∃ b o c, v = .slice (some ⟨b, o, none⟩) ts.length c ∧ ts.length ≤ c ∧ RdT w b o ts := by
  rcases h.2 with ⟨rfl, _⟩ | ⟨_, h⟩
  · simp at h0
  · exact h
end
/-- A list in its box. -/
def LB (W : World) (k : Nat) (b c : Int) (sl : Value) : Prop := W.heap[k]? = some (.cells #[.int .i64 b, .int .i64 c, sl] 24 (0, 0))
theorem LB.new (w : World) (b c : Int) (sl : Value) : LB (w.alloc (.cells #[.int .i64 b, .int .i64 c, sl] 24)) w.heap.size b c sl := heap_alloc_one w _
theorem LB.below {w W : World} {k : Nat} {b c : Int} {sl : Value} (h : LB w k b c sl) (hb : Below w.heap.size w W) : LB W k b c sl := (hb.block k (lt_of_heap h)).trans h
theorem LB.cells {w : World} {k : Nat} {b c : Int} {sl : Value} (h : LB w k b c sl) : w.cell? ⟨k, 0, none⟩ = some (.int .i64 b) ∧ w.cell? ⟨k, 1, none⟩ = some (.int .i64 c) ∧ w.cell? ⟨k, 2, none⟩ = some sl := ⟨cell_of_row _ _ _ _ _ _ h, cell_of_row _ _ _ _ _ _ h, cell_of_row _ _ _ _ _ _ h⟩
theorem LB.frozen {w : World} {k : Nat} {b c : Int} {sl : Value} (h : LB w k b c sl) (i : Nat) : w.frozen? ⟨k, i, none⟩ = false := frozen_of_row _ _ _ _ _ h
theorem two_cells (w : World) (x y : Value) (t : TypeId) : (w.alloc (.cells #[x, y] t)).cell? ⟨w.heap.size, 0, none⟩ = some x ∧ (w.alloc (.cells #[x, y] t)).cell? ⟨w.heap.size, 1, none⟩ = some y :=
  ⟨cell_of_row _ _ _ _ _ _ (heap_alloc_one w _), cell_of_row _ _ _ _ _ _ (heap_alloc_one w _)⟩

end Go.Proofs.Ytllmfkodgalklaa
