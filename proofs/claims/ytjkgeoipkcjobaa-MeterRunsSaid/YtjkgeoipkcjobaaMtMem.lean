/- A meter in memory. -/
import Derived.Test.YtjkgeoipkcjobaaMtMath
import Derived.Below
import Derived.WalkKit
import Derived.WalkMore
import Derived.BigQuiet
import Derived.Lib.Hide
import Derived.Lib.SmallJoins
import Derived.Deep.DeepCutAuto
import Derived.OrdersHeld
import Derived.Deep.RegionHeld
namespace Go.Proofs.Ytjkgeoipkcjobaa
open Go.RowKit Go.Joins

theorem lt_of_heap {w : World} {k : Nat} {o : Obj} (h : w.heap[k]? = some o) : k < w.heap.size := by
  rcases Nat.lt_or_ge k w.heap.size with g | g
  · exact g
  · rw [Array.getElem?_eq_none g] at h; cases h
/-- All blocks but one are as they were. -/
structure ButB (b : Nat) (w w' : World) : Prop where
  os : w'.os = w.os
  tape : w'.tape = w.tape
  output : w'.output = w.output
  size : w.heap.size ≤ w'.heap.size
  block : ∀ k, k < w.heap.size → k ≠ b → w'.heap[k]? = w.heap[k]?
theorem ButB.refl (b : Nat) (w : World) : ButB b w w := ⟨rfl, rfl, rfl, Nat.le_refl _, fun _ _ _ => rfl⟩
theorem ButB.trans {b : Nat} {w w1 w2 : World} (h : ButB b w w1) (k : ButB b w1 w2) : ButB b w w2 :=
  ⟨k.os.trans h.os, k.tape.trans h.tape, k.output.trans h.output, Nat.le_trans h.size k.size, fun i hi hn => (k.block i (Nat.lt_of_lt_of_le hi h.size) hn).trans (h.block i hi hn)⟩
theorem ButB.of_below {b : Nat} {w w1 : World} (h : Below w.heap.size w w1) : ButB b w w1 := ⟨h.os, h.tape, h.output, h.size, fun k hk _ => h.block k hk⟩
theorem ButB.below {b B : Nat} {w w1 : World} (h : ButB b w w1) (hB : B ≤ b) (hb : b < w.heap.size) : Below B w w1 :=
  ⟨h.os, h.tape, h.output, h.size, fun k hk => h.block k (by omega) (by omega)⟩
def mrow (m : MS) : Array Value := #[.int .i64 m.r, .int .i64 m.bu, .int .i64 m.mo, .int .i64 m.be, .bool m.cp, .bool m.aw, .bool m.sh, .int .i64 m.last, .int .i64 m.fi, .int .i64 m.se, .bool m.off]
/-- A meter. -/
def Mtr (w : World) (b : Nat) (m : MS) : Prop := w.heap[b]? = some (.cells (mrow m) 52 (0, 0))
theorem Mtr.lt {w : World} {b : Nat} {m : MS} (h : Mtr w b m) : b < w.heap.size := lt_of_heap h
theorem Mtr.below {w w' : World} {b : Nat} {m : MS} (h : Mtr w b m) (hb : Below w.heap.size w w') : Mtr w' b m := (hb.block b h.lt).trans h
theorem Mtr.but {w w' : World} {b c : Nat} {m : MS} (h : Mtr w b m) (hb : ButB c w w') (hn : b ≠ c) : Mtr w' b m := (hb.block b h.lt hn).trans h
theorem set_but {w : World} {b : Nat} {cs : Array Value} {t : TypeId} {fr : Nat × Nat} (h : w.heap[b]? = some (.cells cs t fr)) (i : Nat) (v : Value) : ButB b w (w.setCell ⟨b, i, none⟩ v) := by
  have h1 : Below b w (w.setCell ⟨b, i, none⟩ v) := (Below.refl b w).setCell (Nat.le_refl _) v
  exact ⟨h1.os, h1.tape, h1.output, h1.size, fun k _ hn => heap_setCell_other w ⟨b, i, none⟩ k v hn⟩

end Go.Proofs.Ytjkgeoipkcjobaa
