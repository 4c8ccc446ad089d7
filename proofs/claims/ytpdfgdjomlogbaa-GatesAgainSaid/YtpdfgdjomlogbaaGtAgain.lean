/- What it means that a gate stays as it is: the gates' state at all times until then, and then. -/
import Derived.Test.YtpdfgdjomlogbaaGtHand
namespace Go.Proofs.Ytpdfgdjomlogbaa
open Go.RowKit Go.Joins

/-- A gate's bit at a time of a cycle, or behind it. -/
def bitAt (c : Int) (ts : List (Int × Int)) (G : Nat) (t : Int) : Int := bitA ts G (slotI ts (t % c))
section
variable {b c : Int} {ts : List (Int × Int)}
theorem Good.find_up (h : Good b c ts) {i : Nat} {t : Int} : ∀ j, i ≤ j → up c ts i ≤ t → t < up c ts j → ∃ k, i ≤ k ∧ k < j ∧ up c ts k ≤ t ∧ t < up c ts (k + 1)
  | 0, hi, h1, h2 => by rw [show i = 0 by omega] at h1; omega
  | j + 1, hi, h1, h2 => by
    rcases Nat.lt_or_ge j i with q | q
    · rw [show i = j + 1 by omega] at h1; omega
    · by_cases h3 : t < up c ts j
      · obtain ⟨k, a, b', d, e⟩ := h.find_up j q h1 h3
        exact ⟨k, a, by omega, d, e⟩
      · exact ⟨j, q, by omega, by omega, h2⟩
theorem bitA_two (ts : List (Int × Int)) (G i : Nat) : bitA ts G i = 0 ∨ bitA ts G i = 1 := by unfold bitA; omega
theorem isB_false {G : Nat} {bit : Int} {j : Nat} (h : isB ts G bit j = false) : bitA ts G (j % ts.length) = bit := by
  unfold isB at h; simpa using h
theorem isB_true {G : Nat} {bit : Int} {j : Nat} (h : isB ts G bit j = true) : bitA ts G (j % ts.length) ≠ bit := by
  unfold isB at h; simpa using h
theorem Good.stay_spec (h : Good b c ts) {g : Int} (h0 : 0 ≤ g) (h1 : g < c) (G : Nat) (bit : Int) :
    (stayV c ts g G bit = 2147483648 ∧ ∀ i, i < ts.length → bitA ts G i = bit) ∨
    (0 ≤ stayV c ts g G bit ∧ stayV c ts g G bit ≤ c ∧ bitAt c ts G (g + stayV c ts g G bit) ≠ bit ∧ ∀ u, 0 ≤ u → u < stayV c ts g G bit → bitAt c ts G (g + u) = bit) := by
  have hs := h.slot_lt g
  have hst := h.slot_start h0
  have hus := up_slot (c := c) hs
  have hp := h.pos
  unfold stayV
  cases hf : search (isB ts G bit) (slotI ts g) ts.length with
  | none =>
    refine .inl ⟨rfl, fun i hi => ?_⟩
    have hn := search_none _ _ hf
    rcases Nat.lt_or_ge i (slotI ts g) with q | q
    · have := isB_false (hn (i + ts.length) (by omega) (by omega))
      rwa [Nat.add_mod_right, Nat.mod_eq_of_lt hi] at this
    · have := isB_false (hn i q (by omega))
      rwa [Nat.mod_eq_of_lt hi] at this
  | some j =>
    obtain ⟨j1, j2, j3, j4⟩ := search_some _ _ hf
    have hj := isB_true j3
    right
    show 0 ≤ max (up c ts j - g) 0 ∧ max (up c ts j - g) 0 ≤ c ∧ bitAt c ts G (g + max (up c ts j - g) 0) ≠ bit ∧ ∀ u, 0 ≤ u → u < max (up c ts j - g) 0 → bitAt c ts G (g + u) = bit
    have hle := h.up_le (i := j) (k := slotI ts g + ts.length) (by omega)
    rw [h.up_turn] at hle
    refine ⟨by omega, by omega, ?_, fun u u0 u1 => ?_⟩
    · rcases Nat.lt_or_ge (slotI ts g) j with q | q
      · have h2 := h.up_le (i := slotI ts g + 1) (k := j) (by omega)
        have h3 := h.slot_end h1
        rw [h.up_end hs] at h2
        rw [show g + max (up c ts j - g) 0 = up c ts j by omega]
        unfold bitAt
        rw [h.slot_up (j := j) (Int.le_refl _) (h.up_lt _ (by omega))]
        exact hj
      · obtain rfl : j = slotI ts g := by omega
        rw [show g + max (up c ts (slotI ts g) - g) 0 = g by omega]
        unfold bitAt
        rw [Int.emod_eq_of_lt h0 h1]
        rwa [Nat.mod_eq_of_lt hs] at hj
    · obtain ⟨k, k1, k2, k3, k4⟩ := h.find_up (i := slotI ts g) (t := g + u) j j1 (by omega) (by omega)
      unfold bitAt
      rw [h.slot_up k3 k4]
      exact isB_false (j4 k k1 k2)
theorem bit_state {x : Int} (ht : Tells b c ts x) (G : Nat) : stateV b c ts x / (2 : Int) ^ G % 2 = bitAt c ts G (x - b) := by
  unfold stateV
  rw [if_pos ht]
  unfold st bitAt bitA gone
  rw [Int.natCast_pow]
  rfl
theorem bitAt_gone (x u : Int) (G : Nat) : bitAt c ts G (x + u - b) = bitAt c ts G (gone b c x + u) := by
  unfold bitAt gone
  rw [show x + u - b = x - b + u by omega, Int.emod_add_emod]
theorem bitAt_gone0 (x : Int) (G : Nat) : bitAt c ts G (x - b) = bitAt c ts G (gone b c x) := by
  unfold bitAt gone
  rw [Int.emod_emod]
end
/-- What the laws ask of a list at a time: all in plain numbers. -/
structure AgSpec (b c : Int) (ts : List (Int × Int)) (x : Int) (G : Nat) : Prop where
  cyc : stateV b c ts (x + c) = stateV b c ts x
  bit : stateV b c ts x / (2 : Int) ^ G % 2 = 0 ∨ stateV b c ts x / (2 : Int) ^ G % 2 = 1
  on : stateV b c ts x / (2 : Int) ^ G % 2 = 1 → nextV b c ts x G = (0, true) ∧ (leftV b c ts x G = 2147483648 ∨ (0 < leftV b c ts x G ∧ leftV b c ts x G < 2 * c ∧ stateV b c ts (x + leftV b c ts x G - 1) / (2 : Int) ^ G % 2 = 1 ∧ stateV b c ts (x + leftV b c ts x G) / (2 : Int) ^ G % 2 = 0))
  off : stateV b c ts x / (2 : Int) ^ G % 2 = 0 → leftV b c ts x G = 0 ∧ ((nextV b c ts x G = (0, false) ∧ leftV b c ts (x + c - 1) G = 0) ∨ (∃ m, nextV b c ts x G = (m, true) ∧ 0 < m ∧ m ≤ 1073741824 ∧ stateV b c ts (x + m) / (2 : Int) ^ G % 2 = 1 ∧ stateV b c ts (x + m - 1) / (2 : Int) ^ G % 2 = 0))
theorem agSpec {b c : Int} {ts : List (Int × Int)} {x : Int} {G : Nat} (hc : chkV b c ts = 0) (hx0 : 0 ≤ x) (hx1 : x ≤ 4294967296) (hG : G < 8) : AgSpec b c ts x G := by
  have hg := chk_good hc
  have hgb := gone_bd (b := b) x hg.c0
  have hc0 := hg.c0
  have hc1 := hg.c1
  have ht : Tells b c ts x := ⟨⟨by omega, by omega⟩, hc⟩
  have hT : ∀ u, -1 ≤ u → u ≤ 2147483648 → Tells b c ts (x + u) := fun u a b => ⟨⟨by omega, by omega⟩, hc⟩
  have iG : isG (G : Int) := ⟨by omega, by omega⟩
  have eL : leftV b c ts x G = stayV c ts (gone b c x) G 1 := by unfold leftV; rw [if_pos ⟨ht, iG⟩]; simp
  have hB : stateV b c ts x / (2 : Int) ^ G % 2 = bitAt c ts G (gone b c x) := by rw [bit_state ht, bitAt_gone0]
  have hU : ∀ u, -1 ≤ u → u ≤ 2147483648 → stateV b c ts (x + u) / (2 : Int) ^ G % 2 = bitAt c ts G (gone b c x + u) := fun u h1 h2 => by rw [bit_state (hT u h1 h2), bitAt_gone]
  have s1 := hg.stay_spec hgb.1 hgb.2 G 1
  have s0 := hg.stay_spec hgb.1 hgb.2 G 0
  have hslot := hg.slot_lt (gone b c x)
  have e0 : bitAt c ts G (gone b c x + 0) = bitAt c ts G (gone b c x) := by rw [Int.add_zero]
  have eS : bitAt c ts G (gone b c x) = bitA ts G (slotI ts (gone b c x)) := by unfold bitAt; rw [Int.emod_eq_of_lt hgb.1 hgb.2]
  refine ⟨?_, ?_, fun h1 => ?_, fun h1 => ?_⟩
  · exact state_eq (hT c (by omega) (by omega)) ht (gone_cycle b c x)
  · omega
  · rw [hB] at h1
    have z0 : stayV c ts (gone b c x) G 0 = 0 := by
      rcases s0 with ⟨_, h2⟩ | ⟨a1, a2, a3, a4⟩
      · have := h2 _ hslot; rw [eS] at h1; omega
      · refine Decidable.byContradiction fun hne => ?_
        have := a4 0 (by omega) (by omega)
        rw [e0] at this; omega
    refine ⟨?_, ?_⟩
    · unfold nextV
      rw [if_pos (show Tells b c ts x ∧ isG (G : Int) from ⟨ht, iG⟩), Int.toNat_natCast, z0, if_neg (by decide)]
    · rw [eL]
      rcases s1 with ⟨h2, _⟩ | ⟨a1, a2, a3, a4⟩
      · exact .inl h2
      · have hne : stayV c ts (gone b c x) G 1 ≠ 0 := fun e => by rw [e, e0] at a3; exact a3 h1
        generalize stayV c ts (gone b c x) G 1 = v at *
        refine .inr ⟨by omega, by omega, ?_, ?_⟩
        · rw [show x + v - 1 = x + (v - 1) by omega, hU _ (by omega) (by omega)]
          exact a4 _ (by omega) (by omega)
        · rw [hU _ (by omega) (by omega)]
          unfold bitAt at a3 ⊢
          have := bitA_two ts G (slotI ts ((gone b c x + v) % c))
          omega
  · rw [hB] at h1
    have z1 : stayV c ts (gone b c x) G 1 = 0 := by
      rcases s1 with ⟨_, h2⟩ | ⟨a1, a2, a3, a4⟩
      · have := h2 _ hslot; rw [eS] at h1; omega
      · refine Decidable.byContradiction fun hne => ?_
        have := a4 0 (by omega) (by omega)
        rw [e0] at this; omega
    refine ⟨by rw [eL, z1], ?_⟩
    unfold nextV
    rw [if_pos (show Tells b c ts x ∧ isG (G : Int) from ⟨ht, iG⟩), Int.toNat_natCast]
    rcases s0 with ⟨h2, h3⟩ | ⟨a1, a2, a3, a4⟩
    · refine .inl ⟨by rw [if_pos h2], ?_⟩
      have hy := hT (c - 1) (by omega) (by omega)
      have hgb2 := gone_bd (b := b) (x + (c - 1)) hg.c0
      unfold leftV
      rw [show x + c - 1 = x + (c - 1) by omega, if_pos ⟨hy, iG⟩, Int.toNat_natCast]
      rcases hg.stay_spec hgb2.1 hgb2.2 G 1 with ⟨_, k2⟩ | ⟨k1, k2, k3, k4⟩
      · have := k2 _ hslot; have := h3 _ hslot; omega
      · refine Decidable.byContradiction fun hne => ?_
        have h5 := k4 0 (by omega) (by omega)
        unfold bitAt at h5
        have := h3 _ (hg.slot_lt ((gone b c (x + (c - 1)) + 0) % c))
        omega
    · have hne : stayV c ts (gone b c x) G 0 ≠ 0 := fun e => by rw [e, e0] at a3; exact a3 h1
      have hne2 : stayV c ts (gone b c x) G 0 ≠ 2147483648 := by omega
      rw [if_neg hne2]
      generalize stayV c ts (gone b c x) G 0 = v at *
      refine .inr ⟨v, rfl, by omega, by omega, ?_, ?_⟩
      · rw [hU _ (by omega) (by omega)]
        unfold bitAt at a3 ⊢
        have := bitA_two ts G (slotI ts ((gone b c x + v) % c))
        omega
      · rw [show x + v - 1 = x + (v - 1) by omega, hU _ (by omega) (by omega)]
        exact a4 _ (by omega) (by omega)

end Go.Proofs.Ytpdfgdjomlogbaa
