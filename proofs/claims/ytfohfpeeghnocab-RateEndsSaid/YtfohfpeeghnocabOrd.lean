/- Where a float stands among all, and the least and the greatest of a list, step by step. -/
import Derived.Test.YtfohfpeeghnocabFlt
namespace Go.Proofs.Ytfohfpeeghnocab

def pl (b : Nat) : Nat := if 9223372036854775808 ≤ b then 18446744073709551615 - b else b + 9223372036854775808
def isN (b : Nat) : Bool := decide (9218868437227405312 < rung b)
structure Ext where
  lo : Nat
  hi : Nat
  n : Nat
def stp (s : Ext) (b : Nat) : Ext :=
  if isN b then s else ⟨if s.n = 0 ∨ pl b < pl s.lo then b else s.lo, if s.n = 0 ∨ pl s.hi < pl b then b else s.hi, s.n + 1⟩
def ext (xs : List Nat) : Ext := xs.foldl stp ⟨0, 0, 0⟩
def Ext.ok (s : Ext) : Prop := s.n ≠ 0 → pl s.lo ≤ pl s.hi

theorem stp_ok {s : Ext} (h : s.ok) (b : Nat) : (stp s b).ok := by
  unfold stp
  split
  · exact h
  · intro _
    dsimp only
    unfold Ext.ok at h
    by_cases h0 : s.n = 0
    · rw [if_pos (.inl h0), if_pos (.inl h0)]; exact Nat.le_refl _
    · have := h h0
      split <;> split <;> omega
theorem stp_n (s : Ext) (b : Nat) : (stp s b).n ≤ s.n + 1 := by
  unfold stp; split <;> simp
theorem stp_nan {s : Ext} {b : Nat} (h : isN b = true) : stp s b = s := by unfold stp; rw [if_pos h]
theorem stp_first {s : Ext} {b : Nat} (h : isN b = false) (h0 : s.n = 0) : stp s b = ⟨b, b, s.n + 1⟩ := by
  unfold stp; rw [if_neg (by rw [h]; simp), if_pos (.inl h0), if_pos (.inl h0)]
theorem stp_low {s : Ext} {b : Nat} (h : isN b = false) (h0 : s.n ≠ 0) (hs : s.ok) (h1 : pl b < pl s.lo) : stp s b = ⟨b, s.hi, s.n + 1⟩ := by
  have := hs h0
  unfold stp; rw [if_neg (by rw [h]; simp), if_pos (.inr h1), if_neg (by omega)]
theorem stp_high {s : Ext} {b : Nat} (h : isN b = false) (h0 : s.n ≠ 0) (h1 : ¬ pl b < pl s.lo) (h2 : pl s.hi < pl b) : stp s b = ⟨s.lo, b, s.n + 1⟩ := by
  unfold stp; rw [if_neg (by rw [h]; simp), if_neg (by omega), if_pos (.inr h2)]
theorem stp_mid {s : Ext} {b : Nat} (h : isN b = false) (h0 : s.n ≠ 0) (h1 : ¬ pl b < pl s.lo) (h2 : ¬ pl s.hi < pl b) : stp s b = ⟨s.lo, s.hi, s.n + 1⟩ := by
  unfold stp; rw [if_neg (by rw [h]; simp), if_neg (by omega), if_neg (by omega)]

theorem ext_take {xs : List Nat} {k : Nat} (h : k < xs.length) : ext (xs.take (k + 1)) = stp (ext (xs.take k)) (xs.getD k 0) := by
  unfold ext
  have e : xs.take (k + 1) = xs.take k ++ [xs.getD k 0] := by
    rw [List.take_add_one, List.getElem?_eq_getElem h]
    simp [List.getD, h]
  rw [e, List.foldl_append]; rfl
theorem ext_ok (xs : List Nat) : (ext xs).ok := by
  unfold ext
  have : ∀ (l : List Nat) (s : Ext), s.ok → (l.foldl stp s).ok := by
    intro l
    induction l with
    | nil => intro s h; exact h
    | cons b l ih => intro s h; exact ih _ (stp_ok h b)
  exact this xs _ (fun h => absurd rfl h)
theorem ext_n (xs : List Nat) : (ext xs).n ≤ xs.length := by
  unfold ext
  have : ∀ (l : List Nat) (s : Ext), (l.foldl stp s).n ≤ s.n + l.length := by
    intro l
    induction l with
    | nil => intro s; exact Nat.le_refl _
    | cons b l ih =>
      intro s
      have h1 := ih (stp s b)
      have h2 := stp_n s b
      simp only [List.foldl_cons, List.length_cons]
      omega
  have := this xs ⟨0, 0, 0⟩
  simpa using this
theorem ext_bits {xs : List Nat} (h : ∀ x ∈ xs, x < 18446744073709551616) : (ext xs).lo < 18446744073709551616 ∧ (ext xs).hi < 18446744073709551616 := by
  unfold ext
  have : ∀ (l : List Nat) (s : Ext), (∀ x ∈ l, x < 18446744073709551616) → s.lo < 18446744073709551616 ∧ s.hi < 18446744073709551616 → (l.foldl stp s).lo < 18446744073709551616 ∧ (l.foldl stp s).hi < 18446744073709551616 := by
    intro l
    induction l with
    | nil => intro s _ h; exact h
    | cons b l ih =>
      intro s hl hs
      refine ih _ (fun x hx => hl x (List.mem_cons_of_mem _ hx)) ?_
      have hb := hl b (List.mem_cons_self ..)
      unfold stp
      split
      · exact hs
      · dsimp only
        constructor <;> split <;> omega
  exact this xs _ h ⟨by decide, by decide⟩
theorem getD_lt {xs : List Nat} (h : ∀ x ∈ xs, x < 18446744073709551616) (k : Nat) : xs.getD k 0 < 18446744073709551616 := by
  rw [List.getD_eq_getElem?_getD]
  by_cases hk : k < xs.length
  · rw [List.getElem?_eq_getElem hk]; exact h _ (List.getElem_mem hk)
  · rw [List.getElem?_eq_none (by omega)]; decide

end Go.Proofs.Ytfohfpeeghnocab
