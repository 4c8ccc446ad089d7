/- PortWhens in plain numbers: how often one has to look until something goes out, or nothing ever does. -/
import Derived.Test.YtllmfkodgalklaaPoWn
namespace Go.Proofs.Ytllmfkodgalklaa
open Go.RowKit Go.Joins

/-- Nothing can go out from one time to another. -/
def Quiet (b c : Int) (ts : List (Int × Int)) (s : LS) (x e : Int) : Prop := ∀ t, x ≤ t → t < e → ∀ y, y < 8 → ¬ fits s (leftOf (PL.new b c ts) t) y
section
variable {b c : Int} {ts : List (Int × Int)} {s : LS} {x e t : Int} {G : Nat}
theorem leftOf_new (b c : Int) (ts : List (Int × Int)) (x : Int) (d : Nat) : leftOf (PL.new b c ts) x d = leftV b c ts x (d : Int) := by
  have hturn : (PL.new b c ts).turn x = PL.new b c ts := by
    unfold PL.turn
    exact if_neg (fun h => by have h1 := h.1; cases h1)
  unfold leftOf
  rw [hturn]
  exact if_neg (by intro h; cases h)
theorem left_cycle (h1 : Tells b c ts t) (h2 : Tells b c ts (t + c)) (y : Int) : leftV b c ts (t + c) y = leftV b c ts t y := by
  unfold leftV
  by_cases hy : isG y
  · rw [if_pos ⟨h2, hy⟩, if_pos ⟨h1, hy⟩, gone_cycle]
  · rw [if_neg (fun h => hy h.2), if_neg (fun h => hy h.2)]
theorem Quiet.empty (b c : Int) (ts : List (Int × Int)) (s : LS) (x : Int) : Quiet b c ts s x x := fun t h1 h2 => by omega
theorem Quiet.join {m : Int} (h : Quiet b c ts s x m) (k : Quiet b c ts s m e) : Quiet b c ts s x e := fun t h1 h2 => by
  rcases Int.lt_or_le t m with g | g
  · exact h t h1 g
  · exact k t g h2
theorem Quiet.cut {x' e' : Int} (h : Quiet b c ts s x e) (h1 : x ≤ x') (h2 : e' ≤ e) : Quiet b c ts s x' e' := fun t a1 a2 => h t (by omega) (by omega)
/-- Nothing can go out for a whole cycle: nothing ever can. -/
theorem Quiet.ever (hz : chkV b c ts = 0) (h : Quiet b c ts s x (x + c)) (hx : 0 ≤ x) : ∀ (n : Nat) (t : Int), (t - x).toNat < n → x ≤ t → t ≤ 2199023255552 → ∀ y, y < 8 → ¬ fits s (leftOf (PL.new b c ts) t) y
  | 0, t, hn, _, _ => by omega
  | n + 1, t, hn, h1, h2 => fun y hy => by
    have hg := chk_good hz
    have hc := hg.c0
    rcases Int.lt_or_le t (x + c) with g | g
    · exact h t h1 g y hy
    · have ih := Quiet.ever hz h hx n (t - c) (by omega) (by omega) (by omega) y hy
      intro hf
      refine ih ?_
      obtain ⟨z, R, hq, hfit⟩ := hf
      refine ⟨z, R, hq, ?_⟩
      rw [leftOf_new] at hfit ⊢
      have e := left_cycle (b := b) (c := c) (ts := ts) (t := t - c) ⟨by unfold inT; omega, hz⟩ ⟨by unfold inT; omega, hz⟩ (y : Int)
      rw [show t - c + c = t by omega] at e
      rw [e] at hfit
      exact hfit
/-- What does not fit at a time fits no sooner than the next gate of a class that waits opens. -/
theorem Quiet.until (hz : chkV b c ts = 0) (hgd : s.Good) (hx : 0 ≤ x) (hx2 : x ≤ 1099511627776) (he : e ≤ 1099511627776) (hn : ∀ y, y < 8 → ¬ fits s (leftOf (PL.new b c ts) x) y) (ho : ∀ y, y < 8 → s.q y ≠ [] → (opensV b c ts x (y : Int)).2 = true → e ≤ (opensV b c ts x (y : Int)).1) : Quiet b c ts s x e := fun t h1 h2 y hy hf => by
  obtain ⟨z, R, hq, hfit⟩ := hf
  have hn := hn y hy
  have hzz := hgd.sz y hy z (by rw [hq]; exact List.mem_cons_self ..)
  have hq0 : leftV b c ts x (y : Int) < 8 * z.2.1 := by
    rcases Int.lt_or_le (leftV b c ts x (y : Int)) (8 * z.2.1) with g | g
    · exact g
    · exact absurd ⟨z, R, hq, by rw [leftOf_new]; exact g⟩ hn
  rw [leftOf_new] at hfit
  have hb := leftV_bound (b := b) (c := c) (ts := ts) x (y : Int)
  have hlt : Tells b c ts x := ⟨by unfold inT; omega, hz⟩
  have := quiet_until (G := y) (t := t) hlt ⟨by unfold inT; omega, hz⟩ ⟨by unfold inT; omega, hz⟩ hy hq0 (by omega) h1 (by
    cases hop : (opensV b c ts x (y : Int)).2 with
    | false => exact .inl rfl
    | true =>
      have := ho y hy (by rw [hq]; simp) hop
      exact .inr (by omega))
  omega
/-- How many slots have begun since. -/
def Since (b c : Int) (ts : List (Int × Int)) (T x : Int) (j : Nat) : Prop := T ≤ x ∧ up c ts (slotI ts (gone b c T) + j) ≤ gone b c T + (x - T)
theorem Since.start (hg : Good b c ts) (T : Int) : Since b c ts T T 0 := by
  have hb := gone_bd (b := b) T hg.c0
  have hs := hg.slot_lt (gone b c T)
  refine ⟨Int.le_refl _, ?_⟩
  rw [Nat.add_zero, up_slot hs]
  have := hg.slot_start hb.1
  omega
theorem Since.later {T x' : Int} {j : Nat} (h : Since b c ts T x j) (hx : x ≤ x') : Since b c ts T x' j := ⟨by have := h.1; omega, by have := h.2; omega⟩
/-- A gate opens: one more slot has begun. -/
theorem Since.next {T m : Int} {j : Nat} (hg : Good b c ts) (h : Since b c ts T x j) (hx : x < m) (h1 : OpenAt b c ts G m) (h2 : ¬ OpenAt b c ts G (m - 1)) : Since b c ts T m (j + 1) := by
  have h3 := h.1
  have h4 := h.2
  refine ⟨by omega, ?_⟩
  rcases Int.lt_or_le (gone b c T + (m - T)) (up c ts (slotI ts (gone b c T) + (j + 1))) with g | g
  · exfalso
    have e1 := hg.slot_far (x := T) (d := m - T) (j := slotI ts (gone b c T) + j) (by omega) g
    have e2 := hg.slot_far (x := T) (d := m - 1 - T) (j := slotI ts (gone b c T) + j) (by omega) (by rw [show slotI ts (gone b c T) + j + 1 = slotI ts (gone b c T) + (j + 1) by omega]; omega)
    rw [show T + (m - T) = m by omega] at e1
    rw [show T + (m - 1 - T) = m - 1 by omega] at e2
    unfold OpenAt at h1 h2
    rw [e1] at h1
    rw [e2] at h2
    exact h2 h1
  · exact g
theorem Since.few {T : Int} {j : Nat} (hg : Good b c ts) (h : Since b c ts T x j) (hx : x < T + c) : j ≤ 64 := by
  have hb := gone_bd (b := b) T hg.c0
  have hs := hg.slot_lt (gone b c T)
  have h1 := hg.up_end hs
  have h2 := hg.slot_end hb.2
  have h3 := hg.up_turn (slotI ts (gone b c T) + 1)
  have h4 := h.2
  have hl := hg.len
  rcases Nat.lt_or_ge 64 j with g | g
  · have := hg.up_le (i := slotI ts (gone b c T) + 1 + ts.length) (k := slotI ts (gone b c T) + j) (by omega)
    omega
  · exact g
/-- How far the law's loop is: so many times it has looked, so many frames are gone. -/
structure Far (b c : Int) (ts : List (Int × Int)) (s : LS) (now : Int) (k p : Nat) : Prop where
  n0 : 0 ≤ now
  n1 : now ≤ 65535 + (k : Int) * 33580000
  ex : ∃ (T : Int) (j : Nat), 0 ≤ T ∧ Quiet b c ts s T now ∧ Since b c ts T now j ∧ (T + c ≤ now ∨ k ≤ 66 * p + j)
theorem Far.start (hg : Good b c ts) {now : Int} (h0 : 0 ≤ now) (h1 : now ≤ 65535) (s : LS) : Far b c ts s now 0 0 := ⟨h0, by omega, now, 0, h0, Quiet.empty b c ts s now, Since.start hg now, .inr (by omega)⟩
/-- Where something fits, it is not yet quiet for a cycle. -/
theorem Far.soon (hz : chkV b c ts = 0) {now : Int} {k p : Nat} (h : Far b c ts s now k p) (hn : now ≤ 1099511627776) {y : Nat} (hy : y < 8) (hf : fits s (leftOf (PL.new b c ts) now) y) : k ≤ 66 * p + 64 := by
  obtain ⟨T, j, hT, hq, hs, hk⟩ := h.ex
  rcases hk with hk | hk
  · exact absurd hf (Quiet.ever hz (hq.cut (Int.le_refl _) hk) hT _ now (Nat.lt_succ_self _) hs.1 (by omega) y hy)
  · rcases Int.lt_or_le now (T + c) with g | g
    · have := hs.few (chk_good hz) g
      omega
    · exact absurd hf (Quiet.ever hz (hq.cut (Int.le_refl _) g) hT _ now (Nat.lt_succ_self _) hs.1 (by omega) y hy)
/-- Something goes out at once. -/
theorem Far.pick (hz : chkV b c ts = 0) {now z : Int} {k p : Nat} {s' : LS} (h : Far b c ts s now k p) (hn : now ≤ 1099511627776) {y : Nat} (hy : y < 8) (hf : fits s (leftOf (PL.new b c ts) now) y) (hz0 : 0 ≤ z) (hz1 : z ≤ 12800) : Far b c ts s' (now + z) (k + 1) (p + 1) := by
  have hk := h.soon hz hn hy hf
  have h0 := h.n0
  have h1 := h.n1
  exact ⟨by omega, by omega, now + z, 0, by omega, Quiet.empty _ _ _ _ _, Since.start (chk_good hz) _, .inr (by omega)⟩
/-- One looks again when the next gate opens of a class that waits. -/
theorem Far.wait (hz : chkV b c ts = 0) (hc : c ≤ 16777216) (hgd : s.Good) {now m : Int} {k p : Nat} (h : Far b c ts s now k p) (hk : k < 8000) (hn : ∀ y, y < 8 → ¬ fits s (leftOf (PL.new b c ts) now) y) {y0 : Nat} (hy0 : y0 < 8) (hm : opensV b c ts now (y0 : Int) = (m, true)) (ho : ∀ y, y < 8 → s.q y ≠ [] → (opensV b c ts now (y : Int)).2 = true → m ≤ (opensV b c ts now (y : Int)).1) :
    now < m ∧ m ≤ now + 33554432 ∧ Quiet b c ts s now m ∧ Far b c ts s m (k + 1) p := by
  have hg := chk_good hz
  have h0 := h.n0
  have h1 := h.n1
  have hb := leftV_bound (b := b) (c := c) (ts := ts) now (y0 : Int)
  have hkk : (k : Int) * 33580000 ≤ 8000 * 33580000 := by omega
  obtain ⟨o1, o2, o3, e, o4, o5, o6⟩ := opens_char (G := y0) ⟨by unfold inT; omega, hz⟩ ⟨by unfold inT; omega, hz⟩ hy0 hm
  have hq : Quiet b c ts s now m := Quiet.until hz hgd h0 (by omega) (by omega) hn ho
  refine ⟨o1, by omega, hq, by omega, by omega, ?_⟩
  obtain ⟨T, j, hT, hq1, hs, hkj⟩ := h.ex
  refine ⟨T, j + 1, hT, hq1.join hq, hs.next hg o1 o3 (o6 (m - 1) (by omega) (by omega)), ?_⟩
  rcases hkj with g | g
  · exact .inl (by omega)
  · exact .inr (by omega)
/-- Something goes out then. -/
theorem Far.waitPick (hz : chkV b c ts = 0) {m z : Int} {k p : Nat} {s' : LS} (h : Far b c ts s m (k + 1) p) (hn : m ≤ 1099511627776) {y : Nat} (hy : y < 8) (hf : fits s (leftOf (PL.new b c ts) m) y) (hz0 : 0 ≤ z) (hz1 : z ≤ 12800) (hn1 : m + z ≤ 65535 + ((k + 1 : Nat) : Int) * 33580000) : Far b c ts s' (m + z) (k + 1) (p + 1) := by
  have hk := h.soon hz hn hy hf
  have h0 := h.n0
  exact ⟨by omega, hn1, m + z, 0, by omega, Quiet.empty _ _ _ _ _, Since.start (chk_good hz) _, .inr (by omega)⟩
/-- One has looked so often that nothing can go out ever. -/
theorem Far.done (hz : chkV b c ts = 0) {now : Int} {p : Nat} (h : Far b c ts s now 8000 p) (hp : p ≤ 20) : ∀ t, now ≤ t → t ≤ 2199023255552 → ∀ y, y < 8 → ¬ fits s (leftOf (PL.new b c ts) t) y := by
  obtain ⟨T, j, hT, hq, hs, hk⟩ := h.ex
  have key : T + c ≤ now := by
    rcases hk with g | g
    · exact g
    · rcases Int.lt_or_le now (T + c) with g2 | g2
      · have := hs.few (chk_good hz) g2
        omega
      · exact g2
  intro t h1 h2 y hy
  exact Quiet.ever hz (hq.cut (Int.le_refl _) key) hT _ t (Nat.lt_succ_self _) (by have := hs.1; omega) h2 y hy
/-- No class that waits has a gate that opens again. -/
theorem never (hz : chkV b c ts = 0) (hgd : s.Good) {now : Int} (h0 : 0 ≤ now) (h1 : now ≤ 1099511627776) (hn : ∀ y, y < 8 → ¬ fits s (leftOf (PL.new b c ts) now) y) (ho : ∀ y, y < 8 → s.q y ≠ [] → (opensV b c ts now (y : Int)).2 = false) : ∀ t, now ≤ t → t ≤ 1099511627775 → ∀ y, y < 8 → ¬ fits s (leftOf (PL.new b c ts) t) y := fun t a1 a2 y hy =>
  Quiet.until (e := 1099511627776) hz hgd h0 h1 (Int.le_refl _) hn (fun y hy hq h => by rw [ho y hy hq] at h; cases h) t a1 (by omega) y hy
/-- So its gate is never open for long. -/
theorem never_long {now t : Int} {y : Nat} {z : It} {R : List It} (hgd : s.Good) (hy : y < 8) (hq : s.q y = z :: R) (h : ¬ fits s (leftOf (PL.new b c ts) t) y) : leftV b c ts t (y : Int) < 12800 := by
  have hzz := hgd.sz y hy z (by rw [hq]; exact List.mem_cons_self ..)
  rcases Int.lt_or_le (leftV b c ts t (y : Int)) (8 * z.2.1) with g | g
  · omega
  · exact absurd ⟨z, R, hq, by rw [leftOf_new]; exact g⟩ h
end

end Go.Proofs.Ytllmfkodgalklaa
