/- Rows of slots that grow; the law's list for the reference while it is made. -/
import Derived.Test.YtllmfkodgalklaaPoLnEq
import Derived.Maps.AppendAt
import Derived.Test.YtllmfkodgalklaaPoApi
import Derived.Laws.ResultCell
namespace Go.Proofs.Ytllmfkodgalklaa
open Go.RowKit Go.Joins

theorem Try.infoRS : (Try.prog.info? 88).map (fun i => (i.zero, i.size, i.bytes)) = some (some (.agg #[.int .i64 0, .int .i64 0]), 2, 16) := by kernel_rfl
def tv (ts : List (Int × Int)) (k : Nat) : List Value := (List.range k).flatMap fun i => [.int .i64 (tA ts i), .int .i64 (tR ts i)]
theorem tv_succ (ts : List (Int × Int)) (k : Nat) : tv ts (k + 1) = tv ts k ++ [.int .i64 (tA ts k), .int .i64 (tR ts k)] := by
  unfold tv; rw [List.range_succ, List.flatMap_append]; simp
theorem tv_len (ts : List (Int × Int)) (k : Nat) : (tv ts k).length = k * 2 := by
  induction k with
  | zero => rfl
  | succ k ih => rw [tv_succ, List.length_append, ih]; simp; omega
theorem tv_at (ts : List (Int × Int)) (n k : Nat) (h : k < n) : (tv ts n)[k * 2]? = some (.int .i64 (tA ts k)) ∧ (tv ts n)[k * 2 + 1]? = some (.int .i64 (tR ts k)) := by
  induction n with
  | zero => omega
  | succ n ih =>
    rw [tv_succ]
    rcases Nat.lt_or_ge k n with hk | hk
    · have := ih hk
      rw [List.getElem?_append_left (by rw [tv_len]; omega), List.getElem?_append_left (by rw [tv_len]; omega)]
      exact this
    · obtain rfl : k = n := by omega
      rw [List.getElem?_append_right (by rw [tv_len]; omega), List.getElem?_append_right (by rw [tv_len]; omega), tv_len]
      simp
theorem row_lt {W : World} {B e sz n k : Nat} {v : Value} {xs : List Value} (h : W.ownsRow B e sz v n xs) (hk : v.ownBlock = some k) : B ≤ k ∧ k < W.heap.size := by
  rcases h.2 with ⟨rfl, _⟩ | ⟨g, cap, cur, rfl, hb, hg, _⟩
  · simp [Value.ownBlock] at hk
  · simp [Value.ownBlock] at hk
    subst hk
    exact ⟨hb, lt_of_heap hg⟩
theorem row_keep {W W' : World} {B e sz n : Nat} {v : Value} {xs : List Value} (h : W.ownsRow B e sz v n xs) (hk : ∀ k, v.ownBlock = some k → W'.heap[k]? = W.heap[k]?) : W'.ownsRow B e sz v n xs := by
  refine ⟨h.1, ?_⟩
  rcases h.2 with ⟨rfl, hz⟩ | ⟨g, cap, cur, rfl, hb, hg, hr⟩
  · exact .inl ⟨rfl, hz⟩
  · exact .inr ⟨g, cap, cur, rfl, hb, (hk g rfl).trans hg, hr⟩
theorem row_form {W : World} {B e sz n : Nat} {v : Value} {xs : List Value} (h : W.ownsRow B e sz v n xs) : ∃ p c, v = .slice p n c := by
  rcases h.2 with ⟨rfl, hz⟩ | ⟨g, cap, cur, rfl, _⟩
  · exact ⟨_, _, by rw [hz]⟩
  · exact ⟨_, _, rfl⟩
abbrev RO (b c : Int) (sl : Value) : Obj := .cells #[.int .i64 b, .int .i64 c, sl] 52 (0, 0)
/-- The list that is being made: k of its slots are there. -/
def PG (w W : World) (b c : Int) (sl x2 va : Value) (ts : List (Int × Int)) (k : Nat) : Prop :=
  W.ownsRow (w.heap.size + 3) 88 2 va k (tv ts k) ∧ Below w.heap.size w W ∧ w.heap.size + 3 ≤ W.heap.size ∧ LB W w.heap.size b c sl ∧ W.heap[w.heap.size + 1]? = some (RO 0 0 (.slice none 0 0)) ∧ W.heap[w.heap.size + 2]? = some (RO b c x2)
section
variable {w W W' : World} {b c : Int} {sl x2 va : Value} {ts : List (Int × Int)} {k : Nat}
theorem PG.row (h : PG w W b c sl x2 va ts k) : W.ownsRow (w.heap.size + 3) 88 2 va k (tv ts k) := h.1
theorem PG.bel (h : PG w W b c sl x2 va ts k) : Below w.heap.size w W := h.2.1
theorem PG.siz (h : PG w W b c sl x2 va ts k) : w.heap.size + 3 ≤ W.heap.size := h.2.2.1
theorem PG.below (h : PG w W b c sl x2 va ts k) (hb : Below W.heap.size W W') : PG w W' b c sl x2 va ts k := by
  obtain ⟨h1, h2, h3, h4, h5, h6⟩ := h
  exact ⟨row_keep h1 fun k hk => hb.block k (row_lt h1 hk).2, bTr h2 hb, Nat.le_trans h3 hb.size, h4.below hb, (hb.block _ (by omega)).trans h5, (hb.block _ (by omega)).trans h6⟩
theorem PG.app (h : PG w W b c sl x2 va ts k) {v' : Value} (h1 : W'.ownsRow (w.heap.size + 3) 88 2 v' (k + 1) (tv ts k ++ [.int .i64 (tA ts k), .int .i64 (tR ts k)])) (hg : W.grownBy W' va.ownBlock) :
    PG w W' b c sl x2 v' ts (k + 1) := by
  obtain ⟨k1, k2, k3, k4, k5, k6⟩ := h
  obtain ⟨g1, g2, g3, g4, g5⟩ := hg
  have hne : ∀ k, k < w.heap.size + 3 → va.ownBlock ≠ some k := fun k hk e => by have := (row_lt k1 e).1; omega
  have hbel : Below w.heap.size W W' := ⟨g1, g2, g3, g4, fun k hk => g5 k (by omega) (fun e => hne k (by omega) e.symm)⟩
  have keep : ∀ k, k < w.heap.size + 3 → W'.heap[k]? = W.heap[k]? := fun k hk => g5 k (by omega) (fun e => hne k hk e.symm)
  exact ⟨by rw [tv_succ]; exact h1, k2.trans hbel, Nat.le_trans k3 g4, (keep _ (by omega)).trans k4, (keep _ (by omega)).trans k5, (keep _ (by omega)).trans k6⟩
theorem PG.set (h : PG w W b c sl x2 va ts k) (v : Value) : PG w (W.setCell ⟨w.heap.size + 2, 2, none⟩ v) b c sl v va ts k := by
  have ho : ∀ k, k ≠ w.heap.size + 2 → (W.setCell ⟨w.heap.size + 2, 2, none⟩ v).heap[k]? = W.heap[k]? := fun k hk => heap_setCell_other W _ k v hk
  obtain ⟨h1, h2, h3, h4, h5, h6⟩ := h
  exact ⟨row_keep h1 fun k hk => ho k (by have := (row_lt h1 hk).1; omega), h2.trans ⟨rfl, rfl, rfl, by simp, fun k hk => ho k (by omega)⟩, by simpa using h3, (ho _ (by omega)).trans h4, (ho _ (by omega)).trans h5, heap_setCell_same W _ 2 _ _ v h6⟩
theorem PG.cells (h : PG w W b c sl x2 va ts k) : W.cell? ⟨w.heap.size + 2, 0, none⟩ = some (.int .i64 b) ∧ W.cell? ⟨w.heap.size + 2, 1, none⟩ = some (.int .i64 c) ∧ W.cell? ⟨w.heap.size + 2, 2, none⟩ = some x2 ∧ W.frozen? ⟨w.heap.size + 2, 2, none⟩ = false := by
  have h6 := h.2.2.2.2.2
  exact ⟨cell_of_row _ _ _ _ _ _ h6, cell_of_row _ _ _ _ _ _ h6, cell_of_row _ _ _ _ _ _ h6, frozen_of_row W _ 2 _ _ h6⟩
theorem row_arg {B : Nat} (hI : Ints ts) (h : W.ownsRow B 88 2 va ts.length (tv ts ts.length)) : TArg W va ts := by
  refine ⟨hI, ?_⟩
  rcases h.2 with ⟨rfl, hz⟩ | ⟨g, cap, cur, rfl, hb, hg, hn, _, hs, hcur⟩
  · exact .inl ⟨List.eq_nil_of_length_eq_zero hz, none, 0, rfl, fun _ => rfl⟩
  · rcases Nat.eq_zero_or_pos ts.length with h0 | h0
    · exact .inl ⟨List.eq_nil_of_length_eq_zero h0, some ⟨g, 0, none⟩, cap, by rw [h0], fun e => by cases e⟩
    · refine .inr ⟨h0, g, 0, cap, rfl, hn, (row_lt h (k := g) rfl).2, fun k hk => ?_⟩
      have ht := tv_at ts ts.length k hk
      rw [Nat.zero_add, h.cellAt (k * 2) (by omega), h.cellAt (k * 2 + 1) (by omega)]
      exact ht
end
theorem pg_first (w : World) (b c : Int) (sl : Value) (ts : List (Int × Int)) : PG w (((w.alloc (.cells #[.int .i64 b, .int .i64 c, sl] 24)).alloc (.cells #[.int .i64 0, .int .i64 0, .slice none 0 0] 52)).alloc (.cells #[.int .i64 b, .int .i64 c, .slice none 0 0] 52)) b c sl (.slice none 0 0) (.slice none 0 0) ts 0 := by
  have h1 := heap_alloc_one w (.cells #[.int .i64 b, .int .i64 c, sl] 24)
  have h2 := heap_alloc_one (w.alloc (.cells #[.int .i64 b, .int .i64 c, sl] 24)) (RO 0 0 (.slice none 0 0))
  have h3 := heap_alloc_one ((w.alloc (.cells #[.int .i64 b, .int .i64 c, sl] 24)).alloc (RO 0 0 (.slice none 0 0))) (RO b c (.slice none 0 0))
  refine ⟨⟨rfl, .inl ⟨rfl, rfl⟩⟩, bAl (bAl (bAl (bRef w) _) _) _, by simp, ?_, ?_, ?_⟩
  · exact (heap_alloc_old _ _ (r := w.heap.size) (by simp; omega)).trans ((heap_alloc_old _ _ (r := w.heap.size) (by simp)).trans h1)
  · rw [show (w.alloc (.cells #[.int .i64 b, .int .i64 c, sl] 24)).heap.size = w.heap.size + 1 by simp] at h2
    exact (heap_alloc_old _ _ (r := w.heap.size + 1) (by simp)).trans h2
  · simpa using h3

end Go.Proofs.Ytllmfkodgalklaa
