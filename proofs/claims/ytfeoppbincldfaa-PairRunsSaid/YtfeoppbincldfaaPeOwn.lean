/- Ints that are read. -/
import Derived.Test.YtfeoppbincldfaaMd
import Derived.Test.YtfeoppbincldfaaPost
import Derived.WalkMore
import Derived.BigQuiet
import Derived.Deep.QuietTactic
import Derived.Lib.SmallJoins
import Derived.Deep.DeepCutAuto
namespace Go.Proofs.Ytfeoppbincldfaa
open Go.RowKit Go.Joins

theorem bDr1 {B : Nat} {w w' : World} (h : Below B w w') : Below B w w'.drew := ⟨h.os, h.tape, h.output, h.size, h.block⟩
theorem lt_of_heap {w : World} {k : Nat} {o : Obj} (h : w.heap[k]? = some o) : k < w.heap.size := by
  rcases Nat.lt_or_ge k w.heap.size with g | g
  · exact g
  · rw [Array.getElem?_eq_none g] at h; cases h
theorem block_lt_cell {w : World} {a : Addr} {v : Value} (h : w.cell? a = some v) : a.block < w.heap.size := World.block_lt_of_cell? _ _ h
def RdL (w : World) (b o : Nat) (xs : List Int) : Prop :=
  0 < xs.length → b < w.heap.size ∧ ∀ k, k < xs.length → w.cell? ⟨b, o + k, none⟩ = some (.int .i64 (xs.getD k 0))
/-- The value's elements are these ints. -/
def LArg (w : World) (v : Value) (xs : List Int) : Prop :=
  (∀ x ∈ xs, In64 x) ∧
  ((xs = [] ∧ ∃ a c, v = .slice a 0 c ∧ (a = none → c = 0)) ∨
   (0 < xs.length ∧ ∃ b o c, v = .slice (some ⟨b, o, none⟩) xs.length c ∧ xs.length ≤ c ∧ RdL w b o xs))
theorem in_getD {xs : List Int} (h : ∀ x ∈ xs, In64 x) (k : Nat) : In64 (xs.getD k 0) := by
  rw [List.getD_eq_getElem?_getD]
  rcases Nat.lt_or_ge k xs.length with hk | hk
  · rw [List.getElem?_eq_getElem hk]; exact h _ (List.getElem_mem hk)
  · rw [List.getElem?_eq_none hk]; exact ⟨by decide, by decide⟩
theorem take_snocI {xs : List Int} {k : Nat} (h : k < xs.length) : xs.take (k + 1) = xs.take k ++ [xs.getD k 0] := by
  rw [List.take_succ_eq_append_getElem h]; simp [List.getD_eq_getElem?_getD, h]
section
variable {w w' : World} {b o : Nat} {v : Value} {xs : List Int}
theorem RdL.below (h : RdL w b o xs) (hb : Below w.heap.size w w') : RdL w' b o xs := fun h0 => by
  obtain ⟨hlt, hc⟩ := h h0
  exact ⟨Nat.lt_of_lt_of_le hlt hb.size, fun k hk => (hb.cell hlt).trans (hc k hk)⟩
theorem LArg.below (h : LArg w v xs) (hb : Below w.heap.size w w') : LArg w' v xs := by
  obtain ⟨h1, h2⟩ := h
  refine ⟨h1, ?_⟩
  rcases h2 with h2 | ⟨h3, b, o, c, e, hc, hr⟩
  · exact .inl h2
  · exact .inr ⟨h3, b, o, c, e, hc, hr.below hb⟩
theorem LArg.slice (h : LArg w v xs) : ∃ p c, v = .slice p xs.length c := by
  rcases h.2 with ⟨rfl, p, c, rfl, _⟩ | ⟨_, b, o, c, rfl, _⟩
  · exact ⟨p, c, rfl⟩
  · exact ⟨_, c, rfl⟩
end

/-- Ints in a row of their own. -/
def IRow (w : World) (g : Nat) (ys : List Int) : Prop := ∃ fr, w.heap[g]? = some (.cells (ys.map (Value.int .i64)).toArray 3 fr)
theorem IRow.new (w : World) (ys : List Int) (cs : Array Value) (h : cs = (ys.map (Value.int .i64)).toArray) : IRow (w.alloc (.cells cs 3)) w.heap.size ys := ⟨_, by rw [h]; exact heap_alloc_new w _⟩
theorem IRow.arg {w : World} {g c : Nat} {ys : List Int} (h : IRow w g ys) (hy : ∀ x ∈ ys, In64 x) (hc : ys.length ≤ c) : LArg w (.slice (some ⟨g, 0, none⟩) ys.length c) ys := by
  obtain ⟨fr, h⟩ := h
  refine ⟨hy, ?_⟩
  rcases Nat.eq_zero_or_pos ys.length with h0 | h0
  · exact .inl ⟨List.eq_nil_of_length_eq_zero h0, _, c, by rw [h0], fun e => by cases e⟩
  · refine .inr ⟨h0, g, 0, c, rfl, hc, fun _ => ⟨?_, fun k hk => ?_⟩⟩
    · rcases Nat.lt_or_ge g w.heap.size with hl | hl
      · exact hl
      · rw [Array.getElem?_eq_none hl] at h; cases h
    · rw [Nat.zero_add, cell_of_row w g k _ _ _ h]
      simp [List.getD_eq_getElem?_getD, List.getElem?_eq_getElem hk]

end Go.Proofs.Ytfeoppbincldfaa
