/- LanesRuns in plain numbers: which of all that wait is picked. -/
import Derived.Test.YtpgcadceljalpaaLnAll
namespace Go.Proofs.Ytpgcadceljalpaa
open Go.RowKit Go.Joins

section
variable {L : List On} {left : Nat → Int}
theorem cntN_first {k : Nat} {x : On} (h : L[k]? = some x) : cntN L x.1 k = 0 ↔ FirstOf L x.1 k x := by
  unfold cntN
  rw [List.length_eq_zero_iff]
  constructor
  · intro e
    refine ⟨h, rfl, fun j y hj hy hc => ?_⟩
    have : y ∈ ofC (L.take k) x.1 := by
      unfold ofC
      rw [List.mem_filter]
      exact ⟨List.mem_iff_getElem?.2 ⟨j, by rw [List.getElem?_take, if_pos hj]; exact hy⟩, by simp [hc]⟩
    rw [e] at this
    cases this
  · rintro ⟨_, _, hf⟩
    rw [List.eq_nil_iff_forall_not_mem]
    intro y hy
    obtain ⟨h1, h2⟩ := ofC_mem hy
    obtain ⟨j, hj⟩ := List.mem_iff_getElem?.1 h1
    rw [List.getElem?_take] at hj
    split at hj
    · exact hf j y (by assumption) hj h2
    · cases hj
/-- The class of the i-th. -/
def clsN (L : List On) (i : Nat) : Int := (L[i]?.map (·.1)).getD 0
def fitsN (left : Nat → Int) (x : On) : Prop := 8 * x.2.2.1 ≤ left x.1.toNat
instance (x : On) : Decidable (fitsN left x) := by unfold fitsN; infer_instance
def takesN (L : List On) (left : Nat → Int) (b : Int) (k : Nat) (x : On) : Prop := cntN L x.1 k = 0 ∧ fitsN left x ∧ (b < 0 ∨ clsN L b.toNat < x.1)
instance (b : Int) (k : Nat) (x : On) : Decidable (takesN L left b k x) := by unfold takesN; infer_instance
def bstN (L : List On) (left : Nat → Int) : Nat → Int
  | 0 => -1
  | k + 1 => match L[k]? with
    | none => bstN L left k
    | some x => if takesN L left (bstN L left k) k x then (k : Int) else bstN L left k
theorem bstN_succ {k : Nat} {x : On} (h : L[k]? = some x) : bstN L left (k + 1) = if takesN L left (bstN L left k) k x then (k : Int) else bstN L left k := by
  show (match L[k]? with | none => bstN L left k | some x => if takesN L left (bstN L left k) k x then (k : Int) else bstN L left k) = _
  rw [h]
theorem FirstOf.cls {c : Int} {i : Nat} {x : On} (h : FirstOf L c i x) : clsN L i = c := by
  unfold clsN
  rw [h.1]
  exact h.2.1
/-- Two first ones of a class are one. -/
theorem FirstOf.one {c : Int} {i j : Nat} {x y : On} (h : FirstOf L c i x) (k : FirstOf L c j y) : i = j ∧ x = y := by
  have e : i = j := by
    rcases Nat.lt_trichotomy i j with g | g | g
    · exact absurd h.2.1 (k.2.2 i x g h.1)
    · exact g
    · exact absurd k.2.1 (h.2.2 j y g k.1)
  subst e
  have := h.1.symm.trans k.1
  injection this with this
  exact ⟨rfl, this⟩
theorem bstN_spec : ∀ k, k ≤ L.length → (bstN L left k = -1 ∧ ∀ j d y, j < k → FirstOf L d j y → ¬ fitsN left y) ∨
    ∃ i c x, i < k ∧ bstN L left k = (i : Int) ∧ FirstOf L c i x ∧ fitsN left x ∧ ∀ j d y, j < k → FirstOf L d j y → fitsN left y → d ≤ c
  | 0, _ => .inl ⟨rfl, fun j d y hj => by omega⟩
  | k + 1, hk => by
    obtain ⟨x, hx⟩ : ∃ x, L[k]? = some x := ⟨_, List.getElem?_eq_getElem (by omega)⟩
    rw [bstN_succ hx]
    have last : ∀ {d : Int} {y : On}, FirstOf L d k y → y = x ∧ d = x.1 := fun h => by
      have e := h.1.symm.trans hx
      injection e with e
      exact ⟨e, by rw [← e]; exact h.2.1.symm⟩
    rcases bstN_spec k (by omega) with ⟨h1, h2⟩ | ⟨i, c, y, hi, h1, hf, hfit, h2⟩
    · by_cases ht : takesN L left (bstN L left k) k x
      · rw [if_pos ht]
        obtain ⟨t1, t2, _⟩ := ht
        refine .inr ⟨k, x.1, x, by omega, rfl, (cntN_first hx).1 t1, t2, fun j d y hj hy hfy => ?_⟩
        rcases Nat.lt_or_ge j k with g | g
        · exact absurd hfy (h2 j d y g hy)
        · obtain rfl : j = k := by omega
          have := (last hy).2
          omega
      · rw [if_neg ht]
        refine .inl ⟨h1, fun j d y hj hy hfy => ?_⟩
        rcases Nat.lt_or_ge j k with g | g
        · exact h2 j d y g hy hfy
        · obtain rfl : j = k := by omega
          obtain ⟨e1, e2⟩ := last hy
          subst e1 e2
          exact ht ⟨(cntN_first hx).2 hy, hfy, .inl (by omega)⟩
    · have hcls : clsN L (bstN L left k).toNat = c := by rw [h1]; exact hf.cls
      by_cases ht : takesN L left (bstN L left k) k x
      · rw [if_pos ht]
        obtain ⟨t1, t2, t3⟩ := ht
        have hlt : c < x.1 := by
          rcases t3 with t3 | t3
          · omega
          · rw [hcls] at t3; exact t3
        refine .inr ⟨k, x.1, x, by omega, rfl, (cntN_first hx).1 t1, t2, fun j d z hj hz hfz => ?_⟩
        rcases Nat.lt_or_ge j k with g | g
        · have := h2 j d z g hz hfz
          omega
        · obtain rfl : j = k := by omega
          have := (last hz).2
          omega
      · rw [if_neg ht]
        refine .inr ⟨i, c, y, by omega, h1, hf, hfit, fun j d z hj hz hfz => ?_⟩
        rcases Nat.lt_or_ge j k with g | g
        · exact h2 j d z g hz hfz
        · obtain rfl : j = k := by omega
          obtain ⟨e1, e2⟩ := last hz
          subst e1 e2
          rcases Int.lt_or_le c z.1 with g2 | g2
          · exact absurd ⟨(cntN_first hx).2 hz, hfz, .inr (by rw [hcls]; exact g2)⟩ ht
          · exact g2
end
section
variable {L : List On} {s : LS} {left : Nat → Int}
/-- Nothing fits. -/
theorem All.bst_none (h : All L s) (hb : bstN L left L.length < 0) (c : Nat) (hc : c < 8) : ¬ fits s left c := by
  rintro ⟨x, T, hq, hx⟩
  rcases bstN_spec (L := L) (left := left) L.length (Nat.le_refl _) with ⟨_, h2⟩ | ⟨i, d, y, _, h1, _⟩
  · by_cases hn : ∀ i y, ¬ FirstOf L (c : Int) i y
    · rw [h.none_ hc hn] at hq
      cases hq
    · obtain ⟨i, hn⟩ := Classical.not_forall.1 hn
      obtain ⟨y, hn⟩ := Classical.not_forall.1 hn
      have hf := Classical.not_not.1 hn
      obtain ⟨T2, hq2, _⟩ := h.first hc hf
      rw [hq2] at hq
      injection hq with hq _
      refine h2 i c y (List.getElem?_eq_some_iff.1 hf.1).1 hf ?_
      unfold fitsN
      rw [hf.2.1, hq]
      exact hx
  · omega
/-- The first one of the highest class that fits. -/
theorem All.bst_some (h : All L s) {i : Nat} (hb : bstN L left L.length = (i : Int)) : ∃ (c : Nat) (x : It) (T : List It), c < 8 ∧ L[i]? = some ((c : Int), x) ∧ i < L.length ∧ s.q c = x :: T ∧ 8 * x.2.1 ≤ left c ∧ (∀ d, c < d → d < 8 → ¬ fits s left d) ∧ All (L.eraseIdx i) { s with q := upd s.q c T } := by
  rcases bstN_spec (L := L) (left := left) L.length (Nat.le_refl _) with ⟨h1, _⟩ | ⟨j, c, x, hj, h1, hf, hfit, h2⟩
  · omega
  · obtain rfl : i = j := by omega
    have hx := h.cl x (List.mem_iff_getElem?.2 ⟨_, hf.1⟩)
    obtain ⟨cn, rfl⟩ : ∃ cn : Nat, c = (cn : Int) := ⟨c.toNat, by have := hf.2.1; omega⟩
    have hc8 : cn < 8 := by have := hf.2.1; omega
    obtain ⟨T, hq, ha⟩ := h.first hc8 hf
    refine ⟨cn, x.2, T, hc8, by rw [hf.1, ← hf.2.1], hj, hq, ?_, fun d hd hd8 => ?_, ha⟩
    · unfold fitsN at hfit
      rw [hf.2.1] at hfit
      exact hfit
    · rintro ⟨y, T2, hq2, hy⟩
      by_cases hn : ∀ i y, ¬ FirstOf L (d : Int) i y
      · rw [h.none_ hd8 hn] at hq2
        cases hq2
      · obtain ⟨i2, hn⟩ := Classical.not_forall.1 hn
        obtain ⟨y2, hn⟩ := Classical.not_forall.1 hn
        have hf2 := Classical.not_not.1 hn
        obtain ⟨T3, hq3, _⟩ := h.first hd8 hf2
        rw [hq3] at hq2
        injection hq2 with hq2 _
        have := h2 i2 d y2 (List.getElem?_eq_some_iff.1 hf2.1).1 hf2 (by unfold fitsN; rw [hf2.2.1, hq2]; exact hy)
        omega
end

end Go.Proofs.Ytpgcadceljalpaa
