/- The reference's State and Stay. -/
import Derived.Test.YtlpijhopllhccaaPoRef3
namespace Go.Proofs.Ytlpijhopllhccaa
open Go.RowKit Go.Joins

theorem three_cells (w : World) (x y z : Value) (t : TypeId) : (w.alloc (.cells #[x, y, z] t)).cell? ⟨w.heap.size, 0, none⟩ = some x ∧ (w.alloc (.cells #[x, y, z] t)).cell? ⟨w.heap.size, 1, none⟩ = some y ∧ (w.alloc (.cells #[x, y, z] t)).cell? ⟨w.heap.size, 2, none⟩ = some z :=
  ⟨cell_of_row _ _ _ _ _ _ (heap_alloc_one w _), cell_of_row _ _ _ _ _ _ (heap_alloc_one w _), cell_of_row _ _ _ _ _ _ (heap_alloc_one w _)⟩
/-- For how long, in the reference's words. -/
def rstayV (c : Int) (ts : List (Int × Int)) (g : Int) (gate : Nat) (bit : Int) : Int :=
  match search (isB ts gate bit) (slotI ts g) ts.length with
  | some j => max (up c ts j - g) 0
  | none => 2 * c
section
variable {b c : Int} {ts : List (Int × Int)} {g : Int} {G : Nat} {bit : Int}
theorem isB_turn (j : Nat) : isB ts G bit (j + ts.length) = isB ts G bit j := by unfold isB; rw [Nat.add_mod_right]
theorem Good.found (h : Good b c ts) (h0 : 0 ≤ g) {j : Nat} (hj : slotI ts g ≤ j) (hB : isB ts G bit j = true) (hno : ∀ i, slotI ts g ≤ i → i < j → isB ts G bit i = false) :
    rstayV c ts g G bit = max (up c ts j - g) 0 ∧ up c ts j - g ≤ c := by
  have hp := h.pos
  have hlt : j < slotI ts g + ts.length := by
    rcases Nat.lt_or_ge j (slotI ts g + ts.length) with q | q
    · exact q
    · have h1 := hno (j - ts.length) (by omega) (by omega)
      have h2 := isB_turn (ts := ts) (G := G) (bit := bit) (j - ts.length)
      rw [show j - ts.length + ts.length = j by omega, hB, h1] at h2
      cases h2
  refine ⟨?_, ?_⟩
  · unfold rstayV
    rw [search_is ts.length (slotI ts g) hj hlt hB hno]
  · have h1 := h.up_le (i := j) (k := slotI ts g + ts.length) (by omega)
    rw [h.up_turn, up_slot (h.slot_lt g)] at h1
    have := h.slot_start h0
    omega
theorem Good.missed (h : Good b c ts) (hno : ∀ i, slotI ts g ≤ i → i < 4 * ts.length → isB ts G bit i = false) : rstayV c ts g G bit = 2 * c := by
  have hs := h.slot_lt g
  unfold rstayV
  rw [search_not ts.length (slotI ts g) fun i a b => hno i a (by omega)]
theorem Good.stay_two (h : Good b c ts) (h0 : 0 ≤ g) : (stayV c ts g G bit = 2147483648 ∧ rstayV c ts g G bit = 2 * c) ∨ (stayV c ts g G bit = rstayV c ts g G bit ∧ rstayV c ts g G bit ≤ c) := by
  unfold stayV rstayV
  cases hf : search (isB ts G bit) (slotI ts g) ts.length with
  | none => exact .inl ⟨rfl, rfl⟩
  | some j =>
    obtain ⟨j1, j2, j3, j4⟩ := search_some _ _ hf
    have hk := h.found h0 j1 j3 j4
    have hc := h.c0
    refine .inr ⟨rfl, ?_⟩
    show max (up c ts j - g) 0 ≤ c
    omega
theorem up_at {t k : Nat} (hk : k < ts.length) : up c ts (t * ts.length + k) = (t : Int) * c + pre ts k := by
  unfold up
  rw [Nat.add_comm, Nat.add_mul_mod_self_right, Nat.mod_eq_of_lt hk, Nat.add_mul_div_right _ _ (by omega), Nat.div_eq_of_lt hk, Nat.zero_add]
theorem Good.up_to (h : Good b c ts) {t k : Nat} (hk : k < ts.length) : up c ts (t * ts.length + k + 1) = (t : Int) * c + endOf c ts k := by
  rw [h.up_step, up_at hk, Nat.add_comm (t * ts.length) k, Nat.add_mul_mod_self_right, Nat.mod_eq_of_lt hk]
  unfold longI endOf
  split
  · rw [pre_succ]; omega
  · omega
theorem isB_at {t k : Nat} (hk : k < ts.length) : isB ts G bit (t * ts.length + k) = !decide (bitA ts G k = bit) := by
  unfold isB
  rw [Nat.add_comm, Nat.add_mul_mod_self_right, Nat.mod_eq_of_lt hk]
end

end Go.Proofs.Ytlpijhopllhccaa
