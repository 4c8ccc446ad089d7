/- The laws' head: the document's example. -/
import Derived.Test.YtihddpoaemhlnaaBtChoose
namespace Go.Proofs.Ytihddpoaemhlnaa
open Go.RowKit Go.Joins

def exF (k : Nat) : Hd := if k = 0 then ⟨true, true, ⟨⟨3, 0, 0, 9⟩, 2, 9, 0, 0⟩⟩ else ⟨true, true, ⟨⟨3, 0, 0, 9⟩, 4, 8, 0, 0⟩⟩
def exCells : Array Value := #[.bool true, .bool true, .int .i64 3, .int .i64 0, .int .i64 0, .int .i64 9, .int .i64 2, .int .i64 9, .int .i64 0, .int .i64 0, .bool true, .bool true, .int .i64 3, .int .i64 0, .int .i64 0, .int .i64 9, .int .i64 4, .int .i64 8, .int .i64 0, .int .i64 0]
theorem ex_arg {W : World} {g : Nat} {t : TypeId} (h : W.heap[g]? = some (.cells exCells t (0, 0))) : HArg W (.slice (some ⟨g, 0, none⟩) 2 2) 2 exF := by
  refine .inr ⟨by omega, g, 0, 2, rfl, lt_of_heap h, fun k hk => ?_⟩
  rcases (show k = 0 ∨ k = 1 by omega) with rfl | rfl
  · refine range_of_row h _ _ (fun j v hj => ?_)
    have hl : j < 10 := by have := (List.getElem?_eq_some_iff.1 hj).1; simpa [HC] using this
    rcases (show j = 0 ∨ j = 1 ∨ j = 2 ∨ j = 3 ∨ j = 4 ∨ j = 5 ∨ j = 6 ∨ j = 7 ∨ j = 8 ∨ j = 9 by omega) with rfl | rfl | rfl | rfl | rfl | rfl | rfl | rfl | rfl | rfl <;> exact hj
  · refine range_of_row h _ _ (fun j v hj => ?_)
    have hl : j < 10 := by have := (List.getElem?_eq_some_iff.1 hj).1; simpa [HC] using this
    rcases (show j = 0 ∨ j = 1 ∨ j = 2 ∨ j = 3 ∨ j = 4 ∨ j = 5 ∨ j = 6 ∨ j = 7 ∨ j = 8 ∨ j = 9 by omega) with rfl | rfl | rfl | rfl | rfl | rfl | rfl | rfl | rfl | rfl <;> exact hj
theorem ex_chs : chs ⟨5, 0, 0, 4⟩ exF 2 = ⟨⟨3, 0, 0, 9⟩, 2, 9, 0, 0⟩ := by kernel_rfl
theorem ex_roles : rolesL 4 (chs ⟨5, 0, 0, 4⟩ exF 2) exF 2 = [2, 1] := by kernel_rfl
set_option maxRecDepth 20000 in
set_option maxHeartbeats 2000000 in
theorem head_ret : Ret 17 #[] (.bool true) := fun w => by
  have HCh := Lib.hid (fun (W : World) (g : Nat) (h : g = W.heap.size) => Choose_any ⟨5, 0, 0, 4⟩ (w := W.alloc (.cells exCells 37)) (ex_arg (g := g) (t := 37) (by subst h; exact heap_alloc_new _ _)) (by decide))
  rw [ex_roles, ex_chs] at HCh
  unfold Chosen VC PC exCells IC at HCh
  simp only [List.map_cons, List.map_nil, List.length_cons, List.length_nil] at HCh
  have heq := fun W => run_eqP 3 0 0 9 3 0 0 9 W true (by decide)
  go_enter Try.func17, Try.ntmps17
  go_wp2_with (go_at_call 18; (with_reducible refine (HCh.out _ _ (by simp)).mono ?_); (rintro e w1 ⟨g, rfl, hg, hrow, hb⟩; have hs2 : w.heap.size + 2 ≤ w1.heap.size := (by have := hb.size; simp at this; omega); have hlp : w.heap.size < w1.heap.size := (by omega); have hbx := (hb.block w.heap.size (by simp; omega)).trans (((bAl (bRef (w.alloc _)) _).block _ (by simp)).trans (heap_alloc_new w _)); have p0 := cell_of_row _ _ 0 _ _ _ hbx; have p1 := cell_of_row _ _ 1 _ _ _ hbx; have p2 := cell_of_row _ _ 2 _ _ _ hbx; have p3 := cell_of_row _ _ 3 _ _ _ hbx; clear hbx; have k0 : w1.cell? ⟨g, 0, none⟩ = some (.int .i64 2) := cell_of_row _ _ 0 _ _ _ hrow; have k1 : w1.cell? ⟨g, 1, none⟩ = some (.int .i64 1) := cell_of_row _ _ 1 _ _ _ hrow; have hgl : g < w1.heap.size := lt_of_heap hrow; have HB := Lib.hid hb; clear hb))
  go_ret
  exact ⟨rfl, bAl (bTr (bAl (bAl (bRef w) _) _) HB.out) _⟩

end Go.Proofs.Ytihddpoaemhlnaa
