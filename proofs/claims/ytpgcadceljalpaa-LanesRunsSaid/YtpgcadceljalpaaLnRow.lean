/- LanesRuns: the law's own row of all that wait, four cells each. -/
import Derived.Test.YtpgcadceljalpaaLnBest
namespace Go.Proofs.Ytpgcadceljalpaa
open Go.RowKit Go.Joins

def on4 (x : On) : List Value := [.int .i64 x.1, .int .i64 x.2.1, .int .i64 x.2.2.1, .bool x.2.2.2]
def iv4 (L : List On) : List Value := L.flatMap on4
theorem iv4_app (L M : List On) : iv4 (L ++ M) = iv4 L ++ iv4 M := by unfold iv4; rw [List.flatMap_append]
theorem iv4_cons (x : On) (L : List On) : iv4 (x :: L) = on4 x ++ iv4 L := rfl
theorem iv4_len (L : List On) : (iv4 L).length = L.length * 4 := by
  induction L with
  | nil => rfl
  | cons s L ih => rw [iv4_cons, List.length_append, ih]; simp [on4]; omega
theorem iv4_one (L : List On) : ∀ u ∈ iv4 L, u.oneCell' = true := by
  intro u hu
  obtain ⟨s, _, hs⟩ := List.mem_flatMap.1 hu
  simp [on4] at hs
  rcases hs with rfl | rfl | rfl | rfl <;> rfl
theorem iv4_at : ∀ (L : List On) (k : Nat) (x : On), L[k]? = some x → ∀ j, j < 4 → (iv4 L)[k * 4 + j]? = (on4 x)[j]?
  | [], k, x, h, _, _ => by simp at h
  | s :: L, 0, x, h, j, hj => by
    simp at h
    subst h
    rw [iv4_cons, List.getElem?_append_left (by show 0 * 4 + j < 4; omega)]
    congr 1
    omega
  | s :: L, k + 1, x, h, j, hj => by
    rw [iv4_cons, List.getElem?_append_right (by show 4 ≤ (k + 1) * 4 + j; omega), show (k + 1) * 4 + j - (on4 s).length = k * 4 + j by show (k + 1) * 4 + j - 4 = _; omega]
    exact iv4_at L k x (by simpa using h) j hj
/-- The row. -/
def Rw (B : Nat) (w : World) (v : Value) (L : List On) : Prop :=
  (v = .slice none 0 0 ∧ L = []) ∨ ∃ (g cap : Nat) (cur : Array Value), v = .slice (some ⟨g, 0, none⟩) L.length cap ∧ B ≤ g ∧ w.heap[g]? = some (.cells cur 41 (0, 0)) ∧ L.length ≤ cap ∧ cap ≤ maxLen ∧ cap * 4 ≤ cur.size ∧ ∀ (j : Nat) (u : Value), (iv4 L)[j]? = some u → cur[j]? = some u
section
variable {B : Nat} {w w' : World} {v : Value} {L : List On}
theorem Rw.below (h : Rw B w v L) (hb : Below w.heap.size w w') : Rw B w' v L := by
  rcases h with h | ⟨g, cap, cur, h1, h2, h3, h4⟩
  · exact .inl h
  · exact .inr ⟨g, cap, cur, h1, h2, (hb.block g (lt_of_heap h3)).trans h3, h4⟩
theorem Rw.form (h : Rw B w v L) : ∃ p c, v = .slice p L.length c := by
  rcases h with ⟨rfl, rfl⟩ | ⟨g, cap, cur, rfl, _⟩
  · exact ⟨none, 0, rfl⟩
  · exact ⟨_, cap, rfl⟩
/-- Its block has a type of its own: what keeps that type's blocks keeps it. -/
theorem Rw.own (h : Rw B w v L) (hk : ∀ (g : Nat) (cur : Array Value), w.heap[g]? = some (.cells cur 41 (0, 0)) → w'.heap[g]? = w.heap[g]?) : Rw B w' v L := by
  rcases h with h | ⟨g, cap, cur, h1, h2, h3, h4⟩
  · exact .inl h
  · exact .inr ⟨g, cap, cur, h1, h2, (hk g cur h3).trans h3, h4⟩
theorem Rw.row (h : Rw B w v L) (h0 : 0 < L.length) : ∃ g cap, v = .slice (some ⟨g, 0, none⟩) L.length cap ∧ B ≤ g ∧ g < w.heap.size ∧ L.length ≤ cap ∧ cap ≤ maxLen ∧ ∀ k x, L[k]? = some x → w.cell? ⟨g, k * 4, none⟩ = some (.int .i64 x.1) ∧ w.cell? ⟨g, k * 4 + 1, none⟩ = some (.int .i64 x.2.1) ∧ w.cell? ⟨g, k * 4 + 2, none⟩ = some (.int .i64 x.2.2.1) ∧ w.cell? ⟨g, k * 4 + 3, none⟩ = some (.bool x.2.2.2) := by
  rcases h with ⟨_, rfl⟩ | ⟨g, cap, cur, h1, h2, h3, h4, h5, h6, h7⟩
  · simp at h0
  · refine ⟨g, cap, h1, h2, lt_of_heap h3, h4, h5, fun k x hx => ?_⟩
    have e := iv4_at L k x hx
    exact ⟨(cell_of_row w g _ _ _ _ h3).trans (h7 _ _ ((e 0 (by omega)).trans rfl)), (cell_of_row w g _ _ _ _ h3).trans (h7 _ _ ((e 1 (by omega)).trans rfl)), (cell_of_row w g _ _ _ _ h3).trans (h7 _ _ ((e 2 (by omega)).trans rfl)), (cell_of_row w g _ _ _ _ h3).trans (h7 _ _ ((e 3 (by omega)).trans rfl))⟩
end
theorem Try.infoOne : (Try.prog.info? 41).map (fun i => (i.zero, i.size, i.bytes)) = some (some (.agg #[.int .i64 0, .int .i64 0, .int .i64 0, .bool false]), 4, 32) := by kernel_rfl
/-- More are appended. -/
theorem Rw.app {B : Nat} {w : World} {v : Value} {L : List On} (h : Rw B w v L) (hB : B ≤ w.heap.size) (M : List On) (ad : Addr) (c : Nat) (hn : ∀ j u, (iv4 M)[j]? = some u → w.cell? (ad.add j) = some u) (hl : L.length < 100000) (hm : M.length < 100000) (h0 : M ≠ [] ∨ L ≠ [] ∨ v ≠ .slice none 0 0) :
    ∃ v' w', (∀ ty, (Builtin.append_ #[37, 37] ty #[v, .slice (some ad) M.length c]).run Try.prog w = .ok v' w') ∧ Rw B w' v' (L ++ M) ∧ w.grownBy w' v.ownBlock ∧ (v'.ownBlock = v.ownBlock ∨ v'.ownBlock = some w.heap.size) := by
  obtain ⟨i0, hi, hz0, hz1, hz2⟩ := info_parts Try.infoOne
  have hlen : (iv4 M).length = M.length * i0.size := by rw [hz1]; exact iv4_len M
  have hl2 : (L ++ M).length = L.length + M.length := by simp
  have hiv : iv4 (L ++ M) = iv4 L ++ iv4 M := iv4_app L M
  rcases h with ⟨rfl, rfl⟩ | ⟨g, cap, cur, rfl, h2, h3, h4, h5, h6, h7⟩
  · have hm0 : 0 < M.length := by
      rcases h0 with h0 | h0 | h0
      · exact List.length_pos_iff.2 h0
      · exact absurd rfl h0
      · exact absurd rfl h0
    have key := fun ty => run_append_nil (P := Try.prog) w 37 ty 41 i0 _ Try.underlying37 hi hz0 ad M.length c (iv4 M) hlen hn (by omega) (by omega) (by rw [hz2]; omega)
    refine ⟨_, _, key, .inr ⟨w.heap.size, _, _, by simp; rfl, hB, heap_alloc_new w.drew _, ?_, grownCap_le_maxLen w M.length 0 _ (by unfold maxLen; omega), ?_, ?_⟩, ⟨rfl, rfl, rfl, by simp, fun k hk _ => heap_alloc_old w.drew _ hk⟩, .inr rfl⟩
    · have := grownCap_ge w M.length 0 41
      simpa using this
    · have := grownCap_ge w M.length 0 41
      simp only [Array.size_append, List.size_toArray, size_zeroCells, iv4_len]
      show grownCap w M.length 0 _ * 4 ≤ M.length * 4 + (grownCap w M.length 0 _ - M.length) * 4
      omega
    · intro j u hu
      rw [hiv] at hu
      simp only [iv4, List.flatMap_nil, List.nil_append] at hu
      rw [Array.getElem?_append_left (by have := (List.getElem?_eq_some_iff.1 hu).1; simpa [iv4] using this)]
      simpa [iv4] using hu
  · by_cases hroom : L.length + M.length ≤ cap
    · have hfit : 0 + L.length * i0.size + (iv4 M).length ≤ cur.size := by rw [hz1, iv4_len]; omega
      have key := fun ty => run_append_off (P := Try.prog) w 37 ty 41 i0 Try.underlying37 hi g 0 L.length cap cur h3 ad M.length c (iv4 M) hlen hn (iv4_one M) hroom hfit
      refine ⟨_, _, key, .inr ⟨g, cap, _, by rw [hl2], h2, setRow_heap w g cur _ _ _ h3, by omega, h5, ?_, ?_⟩, ⟨rfl, rfl, rfl, by simp, fun k _ hk => setRow_other w g k _ (fun e => hk (by rw [e]; rfl))⟩, .inl rfl⟩
      · rw [row_mid hfit]; exact h6
      · intro j u hu
        rw [hiv] at hu
        rw [row_mid_at hfit, hz1]
        by_cases hj : j < L.length * 4
        · rw [List.getElem?_append_left (by rw [iv4_len]; omega)] at hu
          rw [if_pos (by omega)]
          exact h7 j u hu
        · rw [List.getElem?_append_right (by rw [iv4_len]; omega), iv4_len] at hu
          have hj2 := (List.getElem?_eq_some_iff.1 hu).1
          rw [if_neg (by omega), if_pos (by omega)]
          rw [show j - (0 + L.length * 4) = j - L.length * 4 by omega]
          exact hu
    · have hold : ∀ j u, (iv4 L)[j]? = some u → w.cell? ((⟨g, 0, none⟩ : Addr).add j) = some u := fun j u hu => by
        have e : (⟨g, 0, none⟩ : Addr).add j = ⟨g, j, none⟩ := by unfold Addr.add; split <;> simp_all
        rw [e, cell_of_row w g _ _ _ _ h3]
        exact h7 j u hu
      have key := fun ty => run_append_grow (P := Try.prog) w 37 ty 41 i0 _ Try.underlying37 hi hz0 ⟨g, 0, none⟩ L.length cap (iv4 L) (by rw [iv4_len, hz1]) hold ad M.length c (iv4 M) hlen hn (by omega) (by omega) (growslice_fits (by omega) (by rw [hz2]; omega))
      refine ⟨_, _, key, .inr ⟨w.heap.size, _, _, by rw [hl2], hB, heap_alloc_new w.drew _, ?_, grownCap_le_maxLen w _ _ _ (by unfold maxLen; omega), ?_, ?_⟩, ⟨rfl, rfl, rfl, by simp, fun k hk _ => heap_alloc_old w.drew _ hk⟩, .inr rfl⟩
      · have := grownCap_ge w (L.length + M.length) cap 41
        rw [hl2]; exact this
      · have := grownCap_ge w (L.length + M.length) cap 41
        simp only [Array.size_append, List.size_toArray, size_zeroCells, iv4_len]
        show grownCap w (L.length + M.length) cap _ * 4 ≤ L.length * 4 + M.length * 4 + (grownCap w (L.length + M.length) cap _ - (L.length + M.length)) * 4
        omega
      · intro j u hu
        rw [hiv] at hu
        have hj := (List.getElem?_eq_some_iff.1 hu).1
        rw [Array.getElem?_append_left (by simpa using hj)]
        simpa using hu

end Go.Proofs.Ytpgcadceljalpaa
