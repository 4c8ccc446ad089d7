/- LanesRuns: what is picked leaves the law's row, by two appends to an empty one. -/
import Derived.Test.YtpgcadceljalpaaLnRunsB
namespace Go.Proofs.Ytpgcadceljalpaa
open Go.RowKit Go.Joins

theorem take_drop_erase {α : Type} : ∀ (L : List α) (i : Nat), L.take i ++ L.drop (i + 1) = L.eraseIdx i
  | [], i => by simp
  | x :: L, 0 => by simp
  | x :: L, i + 1 => by
    rw [List.take_succ_cons, List.drop_succ_cons, List.eraseIdx_cons_succ, List.cons_append, take_drop_erase L i]
section
variable {w W W' : World} {b lb : Nat} {r l : Nat → Int} {L : List On} {s : LS} {F : Nat → Prop} {v : Value}
theorem grown_none {v : Value} (hg : W.grownBy W' v.ownBlock) (hv : ∀ g, v.ownBlock = some g → W.heap.size ≤ g) : Below W.heap.size W W' :=
  ⟨hg.os, hg.tape, hg.output, hg.size, fun k hk => hg.block k hk (fun e => by have := hv k e.symm; omega)⟩
/-- The row lies in a new block. -/
theorem RunS.newRow (h : RunS w b lb r l L s F v W) (hb : Below W.heap.size W W') {v' : Value} {L' : List On} (hr : Rw w.heap.size W' v' L') (ho : ∀ g, v'.ownBlock = some g → W.heap.size ≤ g) : RunS w b lb r l L' s F v' W' := by
  have h' := h.below hb
  refine ⟨h'.ln, hr, fun g hg f => ?_, h'.rm, h'.nr, h'.ls, h'.nl, h'.lo⟩
  have := ho g hg
  have := h.ln.ln.top.2 g f
  omega
theorem iv4_take (L : List On) (i : Nat) (j : Nat) (u : Value) (h : (iv4 (L.take i))[j]? = some u) : (iv4 L)[j]? = some u := by
  have e : iv4 L = iv4 (L.take i) ++ iv4 (L.drop i) := by rw [← iv4_app, List.take_append_drop]
  rw [e, List.getElem?_append_left (List.getElem?_eq_some_iff.1 h).1]
  exact h
theorem iv4_drop (L : List On) (i : Nat) (hi : i ≤ L.length) (j : Nat) (u : Value) (h : (iv4 (L.drop i))[j]? = some u) : (iv4 L)[i * 4 + j]? = some u := by
  have e : iv4 L = iv4 (L.take i) ++ iv4 (L.drop i) := by rw [← iv4_app, List.take_append_drop]
  have el : (iv4 (L.take i)).length = i * 4 := by rw [iv4_len, List.length_take, Nat.min_eq_left hi]
  rw [e, List.getElem?_append_right (by omega), el, Nat.add_sub_cancel_left]
  exact h
/-- The cells of a row, wherever one begins to read. -/
theorem Rw.read {B : Nat} (h : Rw B W v L) (h0 : 0 < L.length) : ∃ g cap, v = .slice (some ⟨g, 0, none⟩) L.length cap ∧ g < W.heap.size ∧ L.length ≤ cap ∧ cap ≤ maxLen ∧ ∀ W', Below W.heap.size W W' → ∀ j u, (iv4 L)[j]? = some u → W'.cell? ⟨g, j, none⟩ = some u := by
  rcases h with ⟨_, rfl⟩ | ⟨g, cap, cur, h1, h2, h3, h4, h5, h6, h7⟩
  · simp at h0
  · exact ⟨g, cap, h1, lt_of_heap h3, h4, h5, fun W' hb j u hu => (cell_of_row W' g j _ _ _ ((hb.block g (lt_of_heap h3)).trans h3)).trans (h7 j u hu)⟩
/-- Both appends, at the worlds at hand. -/
theorem Rw.erase {B : Nat} (h : Rw B W v L) (hB : B ≤ W.heap.size) {i : Nat} (hi : i < L.length) (hl : L.length < 100000) :
    ∃ g cap, v = .slice (some ⟨g, 0, none⟩) L.length cap ∧ L.length ≤ cap ∧ cap ≤ maxLen ∧ ∀ c1 : Nat, ∃ v1 W2, (∀ ty, (Builtin.append_ #[37, 37] ty #[.slice (some ⟨W.heap.size, 0, none⟩) 0 0, .slice (some ⟨g, 0, none⟩) i c1]).run Try.prog (W.alloc (.cells #[] 41)) = .ok v1 W2) ∧ (∃ p1 c1', v1 = .slice p1 i c1') ∧ Below W.heap.size W W2 ∧
      ∀ (ad : Addr) (c2 : Nat), (i + 1 < L.length → ad = ⟨g, (i + 1) * 4, none⟩) → ∃ v2 W3, (∀ ty, (Builtin.append_ #[37, 37] ty #[v1, .slice (some ad) (L.length - (i + 1)) c2]).run Try.prog W2 = .ok v2 W3) ∧ Rw B W3 v2 (L.eraseIdx i) ∧ Below W.heap.size W W3 ∧ (∀ g2, v2.ownBlock = some g2 → W.heap.size ≤ g2) ∧ (∃ p2 c2', v2 = .slice p2 (L.eraseIdx i).length c2') := by
  obtain ⟨g, cap, hv, hg, hn, hm, hrd⟩ := h.read (by omega)
  refine ⟨g, cap, hv, hn, hm, fun c1 => ?_⟩
  have b1 := bAl (bRef W) (.cells #[] 41)
  have hs1 : (W.alloc (.cells #[] 41)).heap.size = W.heap.size + 1 := by simp
  have r1 : Rw B (W.alloc (.cells #[] 41)) (.slice (some ⟨W.heap.size, 0, none⟩) 0 0) [] := .inr ⟨W.heap.size, 0, #[], rfl, hB, heap_alloc_one' W _, by simp, by unfold maxLen; omega, by simp, fun j u hu => by simp [iv4] at hu⟩
  have hadd : ∀ (o j : Nat), (⟨g, o, none⟩ : Addr).add j = ⟨g, o + j, none⟩ := fun o j => by unfold Addr.add; split <;> simp_all
  have et : (L.take i).length = i := by rw [List.length_take, Nat.min_eq_left (Nat.le_of_lt hi)]
  obtain ⟨v1, W2, k1, k2, k3, k4⟩ := r1.app (by omega) (L.take i) ⟨g, 0, none⟩ c1 (fun j u hu => by
    rw [hadd, Nat.zero_add]
    exact hrd _ b1 j u (iv4_take L i j u hu)) (by simp) (by omega) (.inr (.inr (fun e => by cases e)))
  rw [et] at k1
  rw [List.nil_append] at k2
  have b2 : Below W.heap.size W W2 := b1.trans ⟨k3.os, k3.tape, k3.output, k3.size, fun k hk => k3.block k (by omega) (fun e => by
    injection e with e
    have e2 : k = W.heap.size := e
    omega)⟩
  have own1 : ∀ g2, v1.ownBlock = some g2 → W.heap.size ≤ g2 := fun g2 e => by
    rcases k4 with k4 | k4
    · rw [k4] at e
      injection e with e
      have : W.heap.size = g2 := e
      omega
    · rw [k4] at e
      injection e with e
      omega
  have f1 := k2.form
  rw [et] at f1
  refine ⟨v1, W2, k1, f1, b2, fun ad c2 had => ?_⟩
  have ed : (L.drop (i + 1)).length = L.length - (i + 1) := List.length_drop
  have hsz2 := b2.size
  have hne : (L.drop (i + 1) ≠ [] ∨ L.take i ≠ [] ∨ v1 ≠ .slice none 0 0) := by
    rcases k2 with ⟨e1, e2⟩ | ⟨g2, cap2, cur2, e1, _⟩
    · rcases k4 with k4 | k4
      · rw [e1] at k4; cases k4
      · rw [e1] at k4; cases k4
    · exact .inr (.inr (by rw [e1]; exact fun e => by cases e))
  obtain ⟨v2, W3, m1, m2, m3, m4⟩ := k2.app (by omega) (L.drop (i + 1)) ad c2 (fun j u hu => by
    have hlt : i + 1 < L.length := by
      have := (List.getElem?_eq_some_iff.1 hu).1
      rw [iv4_len, ed] at this
      omega
    rw [had hlt, hadd]
    exact hrd _ b2 _ u (iv4_drop L (i + 1) (by omega) j u hu)) (by omega) (by omega) hne
  rw [ed] at m1
  have ee : L.take i ++ L.drop (i + 1) = L.eraseIdx i := take_drop_erase L i
  rw [ee] at m2
  refine ⟨v2, W3, m1, m2, b2.trans ⟨m3.os, m3.tape, m3.output, m3.size, fun k hk => m3.block k (by omega) (fun e => by have := own1 k e.symm; omega)⟩, fun g2 e => ?_, m2.form⟩
  rcases m4 with m4 | m4
  · exact own1 g2 (m4.symm.trans e)
  · rw [m4] at e
    injection e with e
    omega
end

end Go.Proofs.Ytpgcadceljalpaa
