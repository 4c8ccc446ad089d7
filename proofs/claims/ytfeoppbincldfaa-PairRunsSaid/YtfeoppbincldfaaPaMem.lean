/- A block, and all others. -/
import Derived.Test.YtfeoppbincldfaaPaStamp
import Derived.Lib.Hide
import Derived.Lib.SmallJoins
import Derived.OrdersHeld
import Derived.Deep.RegionHeld
import Derived.Deep.RegionHeld3
import Derived.Laws.AppendOwnNone
import Derived.Maps.AppendAt
namespace Go.Proofs.Ytfeoppbincldfaa
open Go.RowKit Go.Joins

/-- All blocks but one are as they were. -/
structure ButB (b : Nat) (w w' : World) : Prop where
  os : w'.os = w.os
  tape : w'.tape = w.tape
  output : w'.output = w.output
  size : w.heap.size ≤ w'.heap.size
  block : ∀ k, k < w.heap.size → k ≠ b → w'.heap[k]? = w.heap[k]?
theorem ButB.refl (b : Nat) (w : World) : ButB b w w := ⟨rfl, rfl, rfl, Nat.le_refl _, fun _ _ _ => rfl⟩
theorem ButB.trans {b : Nat} {w w1 w2 : World} (h : ButB b w w1) (k : ButB b w1 w2) : ButB b w w2 :=
  ⟨k.os.trans h.os, k.tape.trans h.tape, k.output.trans h.output, Nat.le_trans h.size k.size, fun i hi hn => (k.block i (Nat.lt_of_lt_of_le hi h.size) hn).trans (h.block i hi hn)⟩
theorem ButB.of_below {b : Nat} {w w1 : World} (h : Below w.heap.size w w1) : ButB b w w1 := ⟨h.os, h.tape, h.output, h.size, fun k hk _ => h.block k hk⟩
theorem ButB.below {b B : Nat} {w w1 : World} (h : ButB b w w1) (hB : B ≤ b) (hs : B ≤ w.heap.size) : Below B w w1 :=
  ⟨h.os, h.tape, h.output, h.size, fun k hk => h.block k (by omega) (by omega)⟩
theorem ButB.into {b : Nat} {w0 w w1 : World} (h : ButB b w w1) (h0 : Below w0.heap.size w0 w) (hB : w0.heap.size ≤ b) : Below w0.heap.size w0 w1 := h0.trans (h.below hB h0.size)
theorem ButB.drew {b : Nat} {w w1 : World} (h : ButB b w w1) : ButB b w w1.drew := ⟨h.os, h.tape, h.output, h.size, h.block⟩
theorem set_but {w w' : World} {b : Nat} (h : ButB b w w') (i : Nat) (v : Value) : ButB b w (w'.setCell ⟨b, i, none⟩ v) :=
  h.trans ⟨rfl, rfl, rfl, by simp, fun k _ hn => heap_setCell_other w' ⟨b, i, none⟩ k v hn⟩

theorem ButB.drewN {b : Nat} {w w1 : World} (h : ButB b w w1) (n : Nat) : ButB b w (w1.drewN n) := ⟨h.os, h.tape, h.output, h.size, h.block⟩
end Go.Proofs.Ytfeoppbincldfaa
