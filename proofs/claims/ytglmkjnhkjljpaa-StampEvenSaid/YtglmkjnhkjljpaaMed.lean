/- The middle one of a list of ints. -/
import Derived.Test.YtglmkjnhkjljpaaNum
namespace Go.Proofs.Ytglmkjnhkjljpaa
namespace Med

def srt (l : List Int) : List Int := l.mergeSort fun x y => decide (x ≤ y)
def mid (l : List Int) : Nat := (l.length - 1) / 2
def med (l : List Int) : Int := (srt l).getD (mid l) 0
def lo (l : List Int) (x : Int) : Nat := l.countP fun y => decide (y < x)
def eqs (l : List Int) (x : Int) : Nat := l.countP fun y => y == x
def hi (l : List Int) (x : Int) : Nat := l.countP fun y => decide (x < y)
def le (l : List Int) (x : Int) : Nat := l.countP fun y => decide (y ≤ x)

theorem srt_perm (l : List Int) : (srt l).Perm l := List.mergeSort_perm l _
theorem srt_len (l : List Int) : (srt l).length = l.length := (srt_perm l).length_eq
theorem srt_sorted (l : List Int) : (srt l).Pairwise (· ≤ ·) := by
  have h := List.pairwise_mergeSort (le := fun x y : Int => decide (x ≤ y)) (fun a b c h1 h2 => by simp at h1 h2 ⊢; omega) (fun a b => by simp; omega) l
  exact h.imp fun h => by simpa using h
theorem at_le {s : List Int} (hs : s.Pairwise (· ≤ ·)) {i j : Nat} (hij : i ≤ j) (hj : j < s.length) : s.getD i 0 ≤ s.getD j 0 := by
  rw [List.getD_eq_getElem?_getD, List.getD_eq_getElem?_getD, List.getElem?_eq_getElem hj, List.getElem?_eq_getElem (by omega)]
  rcases Nat.lt_or_ge i j with h | h
  · exact List.pairwise_iff_getElem.1 hs i j (by omega) hj h
  · have : i = j := by omega
    subst this; exact Int.le_refl _

theorem count_ge {p : Int → Bool} {s : List Int} {k : Nat} (hk : k < s.length) (h : ∀ j, j ≤ k → p (s.getD j 0) = true) : k + 1 ≤ s.countP p := by
  have e : s.countP p = (s.take (k + 1)).countP p + (s.drop (k + 1)).countP p := by rw [← List.countP_append, List.take_append_drop]
  have e2 : (s.take (k + 1)).countP p = (s.take (k + 1)).length := by
    rw [List.countP_eq_length]
    intro a ha
    obtain ⟨j, hj, rfl⟩ := List.mem_iff_getElem.1 ha
    have hj' : j < k + 1 := by rw [List.length_take] at hj; omega
    have := h j (by omega)
    rw [List.getD_eq_getElem?_getD, List.getElem?_eq_getElem (by omega)] at this
    rw [List.getElem_take]
    exact this
  rw [List.length_take] at e2
  omega
theorem count_le {p : Int → Bool} {s : List Int} {k : Nat} (h : ∀ j, k ≤ j → j < s.length → p (s.getD j 0) = false) : s.countP p ≤ k := by
  have e : s.countP p = (s.take k).countP p + (s.drop k).countP p := by rw [← List.countP_append, List.take_append_drop]
  have e2 : (s.drop k).countP p = 0 := by
    rw [List.countP_eq_zero]
    intro a ha
    obtain ⟨j, hj, rfl⟩ := List.mem_iff_getElem.1 ha
    rw [List.length_drop] at hj
    have := h (k + j) (by omega) (by omega)
    rw [List.getD_eq_getElem?_getD, List.getElem?_eq_getElem (by omega)] at this
    rw [List.getElem_drop]
    simpa using this
  have e3 := List.countP_le_length (p := p) (l := s.take k)
  rw [List.length_take] at e3
  omega
theorem lo_srt (l : List Int) (x : Int) : lo (srt l) x = lo l x := (srt_perm l).countP_eq _
theorem eqs_srt (l : List Int) (x : Int) : eqs (srt l) x = eqs l x := (srt_perm l).countP_eq _
theorem hi_srt (l : List Int) (x : Int) : hi (srt l) x = hi l x := (srt_perm l).countP_eq _
theorem le_split (l : List Int) (x : Int) : le l x = lo l x + eqs l x := by
  induction l with
  | nil => rfl
  | cons y l ih =>
    unfold le lo eqs at *
    rw [List.countP_cons, List.countP_cons, List.countP_cons, ih]
    by_cases h1 : y < x
    · simp [h1, Int.le_of_lt h1, show ¬ y = x by omega]; omega
    · by_cases h2 : y = x
      · simp [h2]; omega
      · simp [h1, h2, show ¬ y ≤ x by omega]
theorem hi_split (l : List Int) (x : Int) : le l x + hi l x = l.length := by
  induction l with
  | nil => rfl
  | cons y l ih =>
    unfold le hi at *
    rw [List.countP_cons, List.countP_cons, List.length_cons]
    by_cases h1 : y ≤ x
    · simp [h1, show ¬ x < y by omega]; omega
    · simp [h1, show x < y by omega]; omega

theorem mid_lt {l : List Int} (hl : 0 < l.length) : mid l < l.length := by unfold mid; omega
theorem med_lo {l : List Int} (hl : 0 < l.length) : lo l (med l) ≤ mid l := by
  have hm := mid_lt hl
  rw [← lo_srt]
  refine count_le fun j h1 h2 => ?_
  have := at_le (srt_sorted l) h1 h2
  unfold med
  exact decide_eq_false (by omega)
theorem med_le {l : List Int} (hl : 0 < l.length) : mid l + 1 ≤ le l (med l) := by
  have hm := mid_lt hl
  have e : le l (med l) = le (srt l) (med l) := by rw [le_split, le_split, lo_srt, eqs_srt]
  rw [e]
  refine count_ge (by rw [srt_len]; exact hm) fun j hj => ?_
  have := at_le (srt_sorted l) hj (by rw [srt_len]; exact hm)
  unfold med
  exact decide_eq_true this
theorem med_mem {l : List Int} (hl : 0 < l.length) : med l ∈ l := by
  have hm := mid_lt hl
  refine (srt_perm l).mem_iff.1 ?_
  unfold med
  rw [List.getD_eq_getElem?_getD, List.getElem?_eq_getElem (by rw [srt_len]; exact hm)]
  exact List.getElem_mem _
/-- The one that so many are below. -/
theorem med_only {l : List Int} (hl : 0 < l.length) {x : Int} (h1 : lo l x ≤ mid l) (h2 : mid l < lo l x + eqs l x) : x = med l := by
  have hm := mid_lt hl
  have hs := srt_sorted l
  have hml : mid l < (srt l).length := by rw [srt_len]; exact hm
  rcases Int.lt_trichotomy x (med l) with h | h | h
  · exfalso
    have : le (srt l) x ≤ mid l := count_le fun j g1 g2 => by
      have := at_le hs g1 g2
      unfold med at h
      exact decide_eq_false (by omega)
    rw [le_split, lo_srt, eqs_srt] at this
    omega
  · exact h
  · exfalso
    have : mid l + 1 ≤ lo (srt l) x := count_ge hml fun j g1 => by
      have := at_le hs g1 hml
      unfold med at h
      exact decide_eq_true (by omega)
    rw [lo_srt] at this
    omega
theorem med_hit {l : List Int} (hl : 0 < l.length) : lo l (med l) ≤ mid l ∧ mid l < lo l (med l) + eqs l (med l) := by
  refine ⟨med_lo hl, ?_⟩
  have := med_le hl
  rw [le_split] at this
  omega
theorem med_even {l : List Int} (hl : 0 < l.length) : 2 * lo l (med l) ≤ l.length ∧ 2 * hi l (med l) ≤ l.length := by
  have h1 := med_lo hl
  have h2 := med_le hl
  have h3 := hi_split l (med l)
  unfold mid at *
  omega
theorem lo_take {l : List Int} {k : Nat} (h : k < l.length) (x : Int) : lo (l.take (k + 1)) x = lo (l.take k) x + (if l.getD k 0 < x then 1 else 0) := by
  unfold lo
  rw [List.take_succ_eq_append_getElem h, List.countP_append, List.getD_eq_getElem?_getD, List.getElem?_eq_getElem h]
  by_cases g : l[k] < x <;> simp [g]
theorem eqs_take {l : List Int} {k : Nat} (h : k < l.length) (x : Int) : eqs (l.take (k + 1)) x = eqs (l.take k) x + (if l.getD k 0 = x then 1 else 0) := by
  unfold eqs
  rw [List.take_succ_eq_append_getElem h, List.countP_append, List.getD_eq_getElem?_getD, List.getElem?_eq_getElem h]
  by_cases g : l[k] = x <;> simp [g]
theorem hi_take {l : List Int} {k : Nat} (h : k < l.length) (x : Int) : hi (l.take (k + 1)) x = hi (l.take k) x + (if x < l.getD k 0 then 1 else 0) := by
  unfold hi
  rw [List.take_succ_eq_append_getElem h, List.countP_append, List.getD_eq_getElem?_getD, List.getElem?_eq_getElem h]
  by_cases g : x < l[k] <;> simp [g]
theorem lo_len (l : List Int) (x : Int) : lo l x ≤ l.length := List.countP_le_length
theorem eqs_len (l : List Int) (x : Int) : eqs l x ≤ l.length := List.countP_le_length
theorem hi_len (l : List Int) (x : Int) : hi l x ≤ l.length := List.countP_le_length

end Med
end Go.Proofs.Ytglmkjnhkjljpaa
