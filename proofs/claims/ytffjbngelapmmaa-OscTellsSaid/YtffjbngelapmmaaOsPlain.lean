/- The law's clock for the reference. -/
import Derived.Test.YtffjbngelapmmaaOsRef
namespace Go.Proofs.Ytffjbngelapmmaa
open Go.RowKit Go.Joins

def iv (xs : List Int) : List Value := xs.map (Value.int .i64)
theorem row_lt {W : World} {B e sz n k : Nat} {v : Value} {xs : List Value} (h : W.ownsRow B e sz v n xs) (hk : v.ownBlock = some k) : B ≤ k ∧ k < W.heap.size := by
  rcases h.2 with ⟨rfl, _⟩ | ⟨g, cap, cur, rfl, hb, hg, _⟩
  · simp [Value.ownBlock] at hk
  · simp [Value.ownBlock] at hk
    subst hk
    refine ⟨hb, ?_⟩
    rcases Nat.lt_or_ge g W.heap.size with hl | hl
    · exact hl
    · rw [Array.getElem?_eq_none hl] at hg; cases hg
theorem row_keep {W W' : World} {B e sz n : Nat} {v : Value} {xs : List Value} (h : W.ownsRow B e sz v n xs) (hk : ∀ k, v.ownBlock = some k → W'.heap[k]? = W.heap[k]?) : W'.ownsRow B e sz v n xs := by
  refine ⟨h.1, ?_⟩
  rcases h.2 with ⟨rfl, hz⟩ | ⟨g, cap, cur, rfl, hb, hg, hr⟩
  · exact .inl ⟨rfl, hz⟩
  · exact .inr ⟨g, cap, cur, rfl, hb, (hk g rfl).trans hg, hr⟩
/-- The clock that is being made: its block, two rows of ints. -/
def PS (w0 W : World) (s g : Int) (x2 x3 va : Value) (us : List Int) (vr : Value) (rs : List Int) : Prop :=
  W.ownsRow (w0.heap.size + 2) 3 1 va us.length (iv us) ∧ W.ownsRow (w0.heap.size + 2) 3 1 vr rs.length (iv rs) ∧ (∀ k, va.ownBlock = some k → vr.ownBlock = some k → False) ∧ Below w0.heap.size w0 W ∧ w0.heap.size + 2 ≤ W.heap.size ∧
    W.heap[w0.heap.size + 1]? = some (.cells #[.int .i64 s, .int .i64 g, x2, x3] 34 (0, 0)) ∧ ∃ c4, W.heap[w0.heap.size]? = some (.cells c4 34 (0, 0)) ∧ c4.size = 4
section
variable {w0 W W' : World} {s g : Int} {x2 x3 va vr : Value} {us rs : List Int}
theorem PS.swap (h : PS w0 W s g x2 x3 va us vr rs) : PS w0 W s g x2 x3 vr rs va us := ⟨h.2.1, h.1, fun k h1 h2 => h.2.2.1 k h2 h1, h.2.2.2⟩
theorem PS.below (h : PS w0 W s g x2 x3 va us vr rs) (hb : Below W.heap.size W W') : PS w0 W' s g x2 x3 va us vr rs := by
  obtain ⟨h1, h2, h3, h4, h5, h6, c4, h7, h8⟩ := h
  exact ⟨row_keep h1 fun k hk => hb.block k (row_lt h1 hk).2, row_keep h2 fun k hk => hb.block k (row_lt h2 hk).2, h3, bTr h4 hb, Nat.le_trans h5 hb.size, (hb.block _ (by omega)).trans h6, c4, (hb.block _ (by omega)).trans h7, h8⟩
theorem PS.app (h : PS w0 W s g x2 x3 va us vr rs) {v' : Value} {z : Int} (h1 : W'.ownsRow (w0.heap.size + 2) 3 1 v' (us.length + 1) (iv us ++ [.int .i64 z])) (hg : W.grownBy W' va.ownBlock) (ha : v'.ownBlock = va.ownBlock ∨ v'.ownBlock = some W.heap.size) :
    PS w0 W' s g x2 x3 v' (us ++ [z]) vr rs ∧ (∀ k, k < W.heap.size → va.ownBlock ≠ some k → W'.heap[k]? = W.heap[k]?) ∧ W.heap.size ≤ W'.heap.size := by
  obtain ⟨k1, k2, k3, k4, k5, k6, c4, k7, k8⟩ := h
  obtain ⟨g1, g2, g3, g4, g5⟩ := hg
  have hne : ∀ k, k < w0.heap.size + 2 → va.ownBlock ≠ some k := fun k hk e => by have := (row_lt k1 e).1; omega
  have hbel : Below w0.heap.size W W' := ⟨g1, g2, g3, g4, fun k hk => g5 k (by omega) (fun e => hne k (by omega) e.symm)⟩
  refine ⟨⟨?_, row_keep k2 fun k hk => g5 k (row_lt k2 hk).2 (fun e => k3 k e.symm hk), ?_, k4.trans hbel, Nat.le_trans k5 g4, (g5 _ (by omega) (fun e => hne _ (by omega) e.symm)).trans k6, c4, (g5 _ (by omega) (fun e => hne _ (by omega) e.symm)).trans k7, k8⟩, fun k hk hn => g5 k hk (fun e => hn e.symm), g4⟩
  · rw [show (us ++ [z]).length = us.length + 1 by simp, show iv (us ++ [z]) = iv us ++ [.int .i64 z] by simp [iv]]
    exact h1
  · intro k e1 e2
    rcases ha with ha | ha
    · rw [ha] at e1; exact k3 k e1 e2
    · rw [ha] at e1; injection e1 with e1; have := (row_lt k2 e2).2; omega
theorem PS.set (h : PS w0 W s g x2 x3 va us vr rs) (i : Nat) (v : Value) : Below w0.heap.size w0 (W.setCell ⟨w0.heap.size + 1, i, none⟩ v) ∧ (∀ k, k ≠ w0.heap.size + 1 → (W.setCell ⟨w0.heap.size + 1, i, none⟩ v).heap[k]? = W.heap[k]?) := by
  have ho : ∀ k, k ≠ w0.heap.size + 1 → (W.setCell ⟨w0.heap.size + 1, i, none⟩ v).heap[k]? = W.heap[k]? := fun k hk => heap_setCell_other W _ k v hk
  exact ⟨h.2.2.2.1.trans ⟨rfl, rfl, rfl, by simp, fun k hk => ho k (by omega)⟩, ho⟩
theorem PS.set2 (h : PS w0 W s g x2 x3 va us vr rs) (v : Value) : PS w0 (W.setCell ⟨w0.heap.size + 1, 2, none⟩ v) s g v x3 va us vr rs := by
  obtain ⟨hb, ho⟩ := h.set 2 v
  obtain ⟨h1, h2, h3, h4, h5, h6, c4, h7, h8⟩ := h
  exact ⟨row_keep h1 fun k hk => ho k (by have := (row_lt h1 hk).1; omega), row_keep h2 fun k hk => ho k (by have := (row_lt h2 hk).1; omega), h3, hb, by simpa using h5, heap_setCell_same W _ 2 _ _ v h6, c4, (ho _ (by omega)).trans h7, h8⟩
theorem PS.set3 (h : PS w0 W s g x2 x3 va us vr rs) (v : Value) : PS w0 (W.setCell ⟨w0.heap.size + 1, 3, none⟩ v) s g x2 v va us vr rs := by
  obtain ⟨hb, ho⟩ := h.set 3 v
  obtain ⟨h1, h2, h3, h4, h5, h6, c4, h7, h8⟩ := h
  exact ⟨row_keep h1 fun k hk => ho k (by have := (row_lt h1 hk).1; omega), row_keep h2 fun k hk => ho k (by have := (row_lt h2 hk).1; omega), h3, hb, by simpa using h5, heap_setCell_same W _ 3 _ _ v h6, c4, (ho _ (by omega)).trans h7, h8⟩
theorem PS.cells (h : PS w0 W s g x2 x3 va us vr rs) : W.cell? ⟨w0.heap.size + 1, 0, none⟩ = some (.int .i64 s) ∧ W.cell? ⟨w0.heap.size + 1, 1, none⟩ = some (.int .i64 g) ∧ W.cell? ⟨w0.heap.size + 1, 2, none⟩ = some x2 ∧ W.cell? ⟨w0.heap.size + 1, 3, none⟩ = some x3 ∧ W.frozen? ⟨w0.heap.size + 1, 2, none⟩ = false ∧ W.frozen? ⟨w0.heap.size + 1, 3, none⟩ = false := by
  have h6 := h.2.2.2.2.2.1
  exact ⟨cell_of_row _ _ _ _ _ _ h6, cell_of_row _ _ _ _ _ _ h6, cell_of_row _ _ _ _ _ _ h6, cell_of_row _ _ _ _ _ _ h6, frozen_of_row W _ 2 _ _ h6, frozen_of_row W _ 3 _ _ h6⟩
theorem row_arg {B : Nat} (h : W.ownsRow B 3 1 va us.length (iv us)) : IArg W va us := by
  rcases h.2 with ⟨rfl, hz⟩ | ⟨g, cap, cur, rfl, hb, hg, hn, _, hs, hcur⟩
  · exact .inl ⟨List.eq_nil_of_length_eq_zero hz, none, 0, rfl⟩
  · rcases Nat.eq_zero_or_pos us.length with h0 | h0
    · exact .inl ⟨List.eq_nil_of_length_eq_zero h0, _, cap, by rw [h0]⟩
    · refine .inr ⟨h0, g, cap, rfl, (row_lt h (k := g) rfl).2, fun k hk => ?_⟩
      rw [h.cellAt k (by rw [Nat.mul_one]; exact hk)]
      simp [iv, List.getD_eq_getElem?_getD, List.getElem?_eq_getElem hk]
end

end Go.Proofs.Ytffjbngelapmmaa
