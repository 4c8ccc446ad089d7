/- PortWhens in plain numbers: when a gate is open, by what Left and Next answer. -/
import Derived.Test.YtllmfkodgalklaaPoWhen
namespace Go.Proofs.Ytllmfkodgalklaa
open Go.RowKit Go.Joins

/-- A class's gate is open at a time. -/
def OpenAt (b c : Int) (ts : List (Int × Int)) (G : Nat) (t : Int) : Prop := bitA ts G (slotI ts (gone b c t)) = 1
section
variable {b c : Int} {ts : List (Int × Int)} {x t : Int} {G : Nat}
theorem gone_add (b c x d : Int) : gone b c (x + d) = (gone b c x + d) % c := by
  unfold gone
  rw [Int.emod_add_emod, show x + d - b = x - b + d by omega]
theorem OpenAt.cycle : OpenAt b c ts G (x + c) ↔ OpenAt b c ts G x := by
  unfold OpenAt
  rw [gone_cycle]
/-- Between the beginnings of two slots a time lies in some slot. -/
theorem Good.seg (h : Good b c ts) {i : Nat} : ∀ k, i ≤ k → up c ts i ≤ t → t < up c ts k → ∃ j, i ≤ j ∧ j < k ∧ up c ts j ≤ t ∧ t < up c ts (j + 1)
  | 0, hk, h1, h2 => by
    obtain rfl : i = 0 := by omega
    omega
  | k + 1, hk, h1, h2 => by
    rcases Int.lt_or_le t (up c ts k) with g | g
    · have hik : i ≤ k := by
        rcases Nat.lt_or_ge k i with g2 | g2
        · have := h.up_le (i := k) (k := i) (by omega)
          omega
        · exact g2
      obtain ⟨j, a1, a2, a3, a4⟩ := Good.seg h k hik h1 g
      exact ⟨j, a1, by omega, a3, a4⟩
    · refine ⟨k, ?_, by omega, g, h2⟩
      rcases Nat.lt_or_ge k i with g2 | g2
      · have := h.up_lt (i := k + 1 - 1) i (by omega)
        have e : i = k + 1 := by omega
        subst e
        omega
      · exact g2
theorem Good.slot_far (h : Good b c ts) {d : Int} {j : Nat} (h1 : up c ts j ≤ gone b c x + d) (h2 : gone b c x + d < up c ts (j + 1)) : slotI ts (gone b c (x + d)) = j % ts.length := by
  rw [gone_add]
  exact h.slot_up h1 h2
/-- For how long a gate's bit stays as it is. -/
theorem Good.stay_char (h : Good b c ts) (x : Int) (G : Nat) (bit : Int) :
    (stayV c ts (gone b c x) G bit = 2147483648 ∧ ∀ d, 0 ≤ d → bitA ts G (slotI ts (gone b c (x + d))) = bit) ∨
    ∃ l, stayV c ts (gone b c x) G bit = l ∧ 0 ≤ l ∧ l < c ∧ (∀ d, 0 ≤ d → d < l → bitA ts G (slotI ts (gone b c (x + d))) = bit) ∧ ¬ bitA ts G (slotI ts (gone b c (x + l))) = bit := by
  have hg := gone_bd (b := b) x h.c0
  have p := h.pos
  have hs := h.slot_lt (gone b c x)
  have h1 : up c ts (slotI ts (gone b c x)) ≤ gone b c x := by rw [up_slot hs]; exact h.slot_start hg.1
  have h2 : gone b c x < up c ts (slotI ts (gone b c x) + 1) := by rw [h.up_end hs]; exact h.slot_end hg.2
  unfold stayV
  cases hj : search (isB ts G bit) (slotI ts (gone b c x)) ts.length with
  | none =>
    refine .inl ⟨rfl, fun d _ => ?_⟩
    have ha := search_none _ _ hj
    have hk := h.slot_lt (gone b c (x + d))
    generalize slotI ts (gone b c (x + d)) = k at *
    generalize slotI ts (gone b c x) = i at *
    have key : ∃ m, i ≤ m ∧ m < i + ts.length ∧ m % ts.length = k := by
      rcases Nat.lt_or_ge k i with g | g
      · exact ⟨k + ts.length, by omega, by omega, by rw [Nat.add_mod_right, Nat.mod_eq_of_lt hk]⟩
      · exact ⟨k, g, by omega, Nat.mod_eq_of_lt hk⟩
    obtain ⟨m, m1, m2, m3⟩ := key
    have := ha m m1 m2
    unfold isB at this
    rw [m3] at this
    simpa using this
  | some j =>
    obtain ⟨a1, a2, a3, a4⟩ := search_some _ _ hj
    unfold isB at a3
    have a3 : ¬ bitA ts G (j % ts.length) = bit := by simpa using a3
    have a4 : ∀ i, slotI ts (gone b c x) ≤ i → i < j → bitA ts G (i % ts.length) = bit := fun i i1 i2 => by
      have := a4 i i1 i2
      unfold isB at this
      simpa using this
    refine .inr ⟨max (up c ts j - gone b c x) 0, rfl, ?_⟩
    have hu := h.up_lt (i := j) (slotI ts (gone b c x) + ts.length) a2
    rw [h.up_turn] at hu
    rcases Nat.eq_or_lt_of_le a1 with e | e
    · rw [← e] at a3 ⊢
      rw [show max (up c ts (slotI ts (gone b c x)) - gone b c x) 0 = 0 by omega]
      refine ⟨Int.le_refl _, by have := h.c0; omega, fun d d1 d2 => by omega, ?_⟩
      rw [Int.add_zero]
      rw [Nat.mod_eq_of_lt hs] at a3
      exact a3
    · have hup := h.up_le (i := slotI ts (gone b c x) + 1) (k := j) (by omega)
      rw [show max (up c ts j - gone b c x) 0 = up c ts j - gone b c x by omega]
      refine ⟨by omega, by omega, fun d d1 d2 => ?_, ?_⟩
      · obtain ⟨m, m1, m2, m3, m4⟩ := h.seg (t := gone b c x + d) (i := slotI ts (gone b c x)) j (by omega) (by omega) (by omega)
        rw [h.slot_far m3 m4]
        exact a4 m m1 m2
      · rw [h.slot_far (j := j) (by omega) (by have := h.up_lt (i := j) (j + 1) (by omega); omega)]
        exact a3
theorem bit_two (ts : List (Int × Int)) (G i : Nat) : bitA ts G i = 0 ∨ bitA ts G i = 1 := by
  unfold bitA
  omega
/-- What Left answers. -/
theorem left_char (ht : Tells b c ts x) (hG : G < 8) : (leftV b c ts x (G : Int) = 2147483648 ∧ ∀ t, x ≤ t → OpenAt b c ts G t) ∨ ∃ l, leftV b c ts x (G : Int) = l ∧ 0 ≤ l ∧ l < c ∧ (∀ t, x ≤ t → t < x + l → OpenAt b c ts G t) ∧ ¬ OpenAt b c ts G (x + l) := by
  have hg := chk_good ht.2
  have e : leftV b c ts x (G : Int) = stayV c ts (gone b c x) G 1 := by
    unfold leftV
    rw [if_pos ⟨ht, by unfold isG; omega⟩, Int.toNat_natCast]
  rw [e]
  rcases hg.stay_char x G 1 with ⟨h1, h2⟩ | ⟨l, h1, h2, h3, h4, h5⟩
  · refine .inl ⟨h1, fun t h => ?_⟩
    have := h2 (t - x) (by omega)
    rw [show x + (t - x) = t by omega] at this
    exact this
  · refine .inr ⟨l, h1, h2, h3, fun t a1 a2 => ?_, h5⟩
    have := h4 (t - x) (by omega) (by omega)
    rw [show x + (t - x) = t by omega] at this
    exact this
/-- What Next answers. -/
theorem next_char (ht : Tells b c ts x) (hG : G < 8) : (nextV b c ts x (G : Int) = (0, false) ∧ ∀ t, x ≤ t → ¬ OpenAt b c ts G t) ∨ ∃ l, nextV b c ts x (G : Int) = (l, true) ∧ 0 ≤ l ∧ l < c ∧ (∀ t, x ≤ t → t < x + l → ¬ OpenAt b c ts G t) ∧ OpenAt b c ts G (x + l) := by
  have hg := chk_good ht.2
  have hc := hg.c1
  have e : nextV b c ts x (G : Int) = if stayV c ts (gone b c x) G 0 = 2147483648 then (0, false) else (stayV c ts (gone b c x) G 0, true) := by
    unfold nextV
    rw [if_pos ⟨ht, by unfold isG; omega⟩, Int.toNat_natCast]
  rw [e]
  rcases hg.stay_char x G 0 with ⟨h1, h2⟩ | ⟨l, h1, h2, h3, h4, h5⟩
  · refine .inl ⟨by rw [if_pos h1], fun t h => ?_⟩
    have := h2 (t - x) (by omega)
    rw [show x + (t - x) = t by omega] at this
    unfold OpenAt
    omega
  · have hb := bit_two ts G (slotI ts (gone b c (x + l)))
    have hl : ¬ l = 2147483648 := by omega
    refine .inr ⟨l, by rw [h1, if_neg hl], h2, h3, fun t a1 a2 => ?_, ?_⟩
    · have := h4 (t - x) (by omega) (by omega)
      rw [show x + (t - x) = t by omega] at this
      unfold OpenAt
      omega
    · unfold OpenAt
      omega
end

end Go.Proofs.Ytllmfkodgalklaa
