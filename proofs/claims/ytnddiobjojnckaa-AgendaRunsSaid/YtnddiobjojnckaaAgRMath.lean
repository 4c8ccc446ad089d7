/- AgendaRuns in plain lists: what is to come by number, which comes first, what is left. -/
import Derived.Test.YtnddiobjojnckaaAgRow
import Derived.Test.YtnddiobjojnckaaAgPuts
namespace Go.Proofs.Ytnddiobjojnckaa
open Go.RowKit

/-- What the law knows: the time, how many were put, what is to come by number. -/
structure RS (now put : Int) (L : List It) : Prop where
  now0 : 0 ≤ now
  nowTop : now ≤ 1099511627776
  inc : L.Pairwise fun a b => a.2.1 < b.2.1
  top : ∀ s ∈ L, s.2.1 ≤ put
  ge : ∀ s ∈ L, now ≤ s.1 ∧ s.1 ≤ 1099511627776
  len : (L.length : Int) ≤ put
theorem it_mem {L : List It} {k : Nat} (h : k < L.length) : it L k ∈ L := by
  unfold it
  rw [List.getD_eq_getElem?_getD, List.getElem?_eq_getElem h]
  exact List.getElem_mem h
theorem it_get {L : List It} {k : Nat} (h : k < L.length) : it L k = L[k] := by
  unfold it
  rw [List.getD_eq_getElem?_getD, List.getElem?_eq_getElem h]; rfl
theorem mem_it {L : List It} {s : It} (h : s ∈ L) : ∃ k, k < L.length ∧ s = it L k := by
  obtain ⟨k, hk, e⟩ := List.mem_iff_getElem.1 h
  exact ⟨k, hk, by rw [it_get hk, e]⟩
section
variable {now put : Int} {L : List It}
theorem RS.start : RS 0 0 [] := ⟨by omega, by omega, .nil, fun s h => by simp at h, fun s h => by simp at h, by simp⟩
theorem RS.uniq (h : RS now put L) : Uniq L := h.inc.imp fun {a b} hab e => by omega
theorem RS.inj (h : RS now put L) {j k : Nat} (hj : j < L.length) (hk : k < L.length) (e : (it L j).2.1 = (it L k).2.1) : j = k := by
  have hp := List.pairwise_iff_getElem.1 h.inc
  rw [it_get hj, it_get hk] at e
  rcases Nat.lt_trichotomy j k with hlt | hh | hlt
  · have := hp j k hj hk hlt; omega
  · exact hh
  · have := hp k j hk hj hlt; omega
theorem RS.add (h : RS now put L) {x y : Int} (h1 : now ≤ x) (h2 : x ≤ 1099511627776) : RS now (put + 1) (L ++ [(x, put + 1, y)]) := by
  refine ⟨h.now0, h.nowTop, ?_, fun s hs => ?_, fun s hs => ?_, ?_⟩
  · refine List.pairwise_append.2 ⟨h.inc, List.pairwise_singleton _ _, fun a ha b hb => ?_⟩
    have := h.top a ha
    simp at hb
    subst hb
    show a.2.1 < put + 1
    omega
  · rcases List.mem_append.1 hs with hs | hs
    · have := h.top s hs; omega
    · simp at hs; subst hs; show put + 1 ≤ put + 1; omega
  · rcases List.mem_append.1 hs with hs | hs
    · exact h.ge s hs
    · simp at hs; subst hs; exact ⟨h1, h2⟩
  · have := h.len
    simp
    omega
theorem erase_perm {k : Nat} (hk : k < L.length) : (it L k :: L.eraseIdx k).Perm L := by
  rw [it_get hk, List.eraseIdx_eq_take_drop_succ]
  have e : L = L.take k ++ L[k] :: L.drop (k + 1) := by rw [← List.drop_eq_getElem_cons hk, List.take_append_drop]
  exact (List.perm_middle.symm.trans (.of_eq e.symm))
theorem RS.erase (h : RS now put L) (k : Nat) : RS now put (L.eraseIdx k) := by
  have hs := List.eraseIdx_sublist L k
  exact ⟨h.now0, h.nowTop, h.inc.sublist hs, fun s hm => h.top s (hs.subset hm), fun s hm => h.ge s (hs.subset hm), by have := hs.length_le; have := h.len; omega⟩
/-- What was taken off by its number. -/
theorem RS.dropped (h : RS now put L) {m : It} {S' : List It} {x : Int} (hm : m.2.1 = x) (hp : (m :: S').Perm L) {k : Nat} (hk : k < L.length) (hx : (it L k).2.1 = x) : S'.Perm (L.eraseIdx k) := by
  obtain ⟨j, hj, e⟩ := mem_it (hp.mem_iff.1 List.mem_cons_self)
  subst e
  obtain rfl := h.inj hj hk (hm.trans hx.symm)
  exact (hp.trans (erase_perm hj).symm).cons_inv
/-- The best one so far. -/
def Best (L : List It) (k : Nat) (b : Nat) : Prop := b < k ∧ (∀ j, j < k → (it L b).1 ≤ (it L j).1) ∧ ∀ j, j < b → (it L b).1 < (it L j).1
theorem RS.first (h : RS now put L) {b : Nat} (hb : Best L L.length b) : AgI.First L (it L b) := by
  refine ⟨it_mem hb.1, fun s hs hlt => ?_⟩
  obtain ⟨j, hj, rfl⟩ := mem_it hs
  have h1 := hb.2.1 j hj
  unfold AgI.kLt at hlt
  rcases hlt with hlt | ⟨he, hn⟩
  · omega
  · rcases Nat.lt_or_ge j b with hjb | hjb
    · have := hb.2.2 j hjb; omega
    · rcases Nat.eq_or_lt_of_le hjb with e | e
      · subst e; omega
      · have := List.pairwise_iff_getElem.1 h.inc b j hb.1 hj e
        rw [← it_get hb.1, ← it_get hj] at this
        omega
theorem RS.first_only (h : RS now put L) {m m' : It} (h1 : AgI.First L m) (h2 : AgI.First L m') : m = m' := by
  obtain ⟨j, hj, rfl⟩ := mem_it h1.1
  obtain ⟨k, hk, rfl⟩ := mem_it h2.1
  have a := h1.2 _ h2.1
  have b := h2.2 _ h1.1
  unfold AgI.kLt at a b
  rw [h.inj hj hk (by omega)]
theorem RS.next (h : RS now put L) {b : Nat} (hb : Best L L.length b) : RS (it L b).1 put (L.eraseIdx b) := by
  have he := h.erase b
  have hm := h.ge _ (it_mem hb.1)
  have h0 := h.now0
  refine ⟨by omega, hm.2, he.inc, he.top, fun s hs => ⟨?_, (he.ge s hs).2⟩, he.len⟩
  obtain ⟨j, hj, rfl⟩ := mem_it ((List.eraseIdx_sublist L b).subset hs)
  exact hb.2.1 j hj
theorem RS.wait (h : RS now put L) {t : Int} (h1 : now ≤ t) (h2 : t ≤ 1099511627776) (h3 : ∀ s ∈ L, t ≤ s.1) : RS t put L := by
  have := h.now0
  exact ⟨by omega, h2, h.inc, h.top, fun s hs => ⟨h3 s hs, (h.ge s hs).2⟩, h.len⟩
theorem best_one (L : List It) : Best L 1 0 := ⟨by omega, fun j hj => (by obtain rfl : j = 0 := (by omega); exact Int.le_refl _), fun j hj => (by omega)⟩
theorem best_up {k b : Nat} (h : Best L k b) : Best L (k + 1) (if (it L k).1 < (it L b).1 then k else b) := by
  obtain ⟨h1, h2, h3⟩ := h
  split
  · refine ⟨by omega, fun j hj => ?_, fun j hj => ?_⟩
    · rcases Nat.lt_or_ge j k with g | g
      · have := h2 j g; omega
      · obtain rfl : j = k := by omega
        exact Int.le_refl _
    · have := h2 j hj; omega
  · refine ⟨by omega, fun j hj => ?_, h3⟩
    rcases Nat.lt_or_ge j k with g | g
    · exact h2 j g
    · obtain rfl : j = k := by omega
      omega
end

end Go.Proofs.Ytnddiobjojnckaa
