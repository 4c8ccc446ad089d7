/- PortWhens in plain numbers: nothing can go out until the next gate opens of a class that waits. -/
import Derived.Test.YtllmfkodgalklaaPoWm
import Derived.Test.YtllmfkodgalklaaPoLaw
namespace Go.Proofs.Ytllmfkodgalklaa
open Go.RowKit Go.Joins

section
variable {b c : Int} {ts : List (Int × Int)} {x t : Int} {G : Nat}
/-- The time for which a gate is open still, from where it closes. -/
theorem left_eq (ht : Tells b c ts t) (hG : G < 8) {e : Int} (h1 : t ≤ e) (h2 : ∀ u, t ≤ u → u < e → OpenAt b c ts G u) (h3 : ¬ OpenAt b c ts G e) : leftV b c ts t (G : Int) = e - t := by
  rcases left_char ht hG with ⟨_, k⟩ | ⟨l, k1, k2, _, k3, k4⟩
  · exact absurd (k e h1) h3
  · rw [k1]
    rcases Int.lt_trichotomy (t + l) e with g | g | g
    · exact absurd (h2 _ (by omega) g) k4
    · omega
    · exact absurd (k3 e h1 g) h3
theorem opens_no {y : Int} (h : (opensV b c ts x y).2 = false) (hl : leftV b c ts x y ≠ 2147483648) : (nextV b c ts (x + leftV b c ts x y) y).2 = false := by
  unfold opensV at h
  rw [if_neg hl] at h
  split at h
  · cases h
  · rename_i h2
    simpa using h2
theorem opens_yes {y m : Int} (h : opensV b c ts x y = (m, true)) : leftV b c ts x y ≠ 2147483648 ∧ ∃ d, nextV b c ts (x + leftV b c ts x y) y = (d, true) ∧ m = x + leftV b c ts x y + d := by
  unfold opensV at h
  by_cases hl : leftV b c ts x y = 2147483648
  · rw [if_pos hl] at h
    cases h
  · rw [if_neg hl] at h
    split at h
    · rename_i h2
      refine ⟨hl, (nextV b c ts (x + leftV b c ts x y) y).1, ?_, ?_⟩
      · rw [← h2]
      · injection h with h
        exact h.symm
    · cases h
/-- What does not fit now fits no sooner than the gate opens again. -/
theorem quiet_until (hx : Tells b c ts x) (hxl : Tells b c ts (x + leftV b c ts x (G : Int))) (ht : Tells b c ts t) (hG : G < 8) {z : Int} (hz : leftV b c ts x (G : Int) < z) (hz2 : z ≤ 12800) (h1 : x ≤ t) (h2 : (opensV b c ts x (G : Int)).2 = false ∨ t < (opensV b c ts x (G : Int)).1) : leftV b c ts t (G : Int) < z := by
  have hl : leftV b c ts x (G : Int) ≠ 2147483648 := by omega
  rcases left_char hx hG with ⟨k, _⟩ | ⟨l, k1, k2, _, k3, k4⟩
  · exact absurd k hl
  rw [k1] at hz hxl
  rcases Int.lt_or_le t (x + l) with g | g
  · rw [left_eq ht hG (e := x + l) (by omega) (fun u a1 a2 => k3 u (by omega) a2) k4]
    omega
  · have hcl : ¬ OpenAt b c ts G t := by
      rcases next_char hxl hG with ⟨n1, n2⟩ | ⟨d, n1, n2, _, n3, n4⟩
      · exact n2 t g
      · refine n3 t g ?_
        rcases h2 with h2 | h2
        · have := opens_no h2 hl
          rw [k1, n1] at this
          cases this
        · unfold opensV at h2
          rw [if_neg hl, k1, n1] at h2
          exact h2
    rw [left_eq ht hG (e := t) (Int.le_refl _) (fun u a1 a2 => by omega) hcl]
    omega
/-- The next time at which a gate opens. -/
theorem opens_char (hx : Tells b c ts x) (hxl : Tells b c ts (x + leftV b c ts x (G : Int))) (hG : G < 8) {m : Int} (h : opensV b c ts x (G : Int) = (m, true)) : x < m ∧ m < x + 2 * c ∧ OpenAt b c ts G m ∧ ∃ e, x ≤ e ∧ e < m ∧ (∀ u, e ≤ u → u < m → ¬ OpenAt b c ts G u) := by
  obtain ⟨hl, d, hn, hm⟩ := opens_yes h
  rcases left_char hx hG with ⟨k, _⟩ | ⟨l, k1, k2, k5, k3, k4⟩
  · exact absurd k hl
  rw [k1] at hxl hn hm
  rcases next_char hxl hG with ⟨n1, _⟩ | ⟨d2, n1, n2, n5, n3, n4⟩
  · rw [n1] at hn
    cases hn
  rw [n1] at hn
  injection hn with hn
  subst hn
  subst hm
  have hd : 0 < d2 := by
    rcases Int.lt_or_le 0 d2 with g | g
    · exact g
    · have : d2 = 0 := by omega
      subst this
      rw [Int.add_zero] at n4
      exact absurd n4 k4
  exact ⟨by omega, by omega, n4, x + l, by omega, by omega, n3⟩
theorem whenL_spec (b c : Int) (ts : List (Int × Int)) (x : Int) : ∀ (ys : List Int) (a : Int × Bool), ((whenL b c ts x ys a).2 = false → a.2 = false ∧ whenL b c ts x ys a = a ∧ ∀ y ∈ ys, (opensV b c ts x y).2 = false) ∧
    ((whenL b c ts x ys a).2 = true → ((a.2 = true ∧ (whenL b c ts x ys a).1 = a.1) ∨ ∃ y ∈ ys, opensV b c ts x y = ((whenL b c ts x ys a).1, true)) ∧ (a.2 = true → (whenL b c ts x ys a).1 ≤ a.1) ∧ ∀ y ∈ ys, (opensV b c ts x y).2 = true → (whenL b c ts x ys a).1 ≤ (opensV b c ts x y).1)
  | [], a => ⟨fun h => ⟨h, rfl, fun y hy => by cases hy⟩, fun h => ⟨.inl ⟨h, rfl⟩, fun _ => Int.le_refl _, fun y hy => by cases hy⟩⟩
  | y :: ys, a => by
    have e : whenL b c ts x (y :: ys) a = whenL b c ts x ys (if (opensV b c ts x y).2 = true then noteV a (opensV b c ts x y).1 else a) := rfl
    rw [e]
    by_cases ho : (opensV b c ts x y).2 = true
    · rw [if_pos ho]
      obtain ⟨i1, i2⟩ := whenL_spec b c ts x ys (noteV a (opensV b c ts x y).1)
      have hn2 : (noteV a (opensV b c ts x y).1).2 = true := by
        unfold noteV
        split
        · rfl
        · rename_i h
          cases h2 : a.2 with
          | true => rfl
          | false => exact absurd (.inl h2) h
      have hn1 : ((noteV a (opensV b c ts x y).1).1 = (opensV b c ts x y).1 ∨ (a.2 = true ∧ (noteV a (opensV b c ts x y).1).1 = a.1)) ∧ (noteV a (opensV b c ts x y).1).1 ≤ (opensV b c ts x y).1 ∧ (a.2 = true → (noteV a (opensV b c ts x y).1).1 ≤ a.1) := by
        unfold noteV
        split
        · rename_i h
          refine ⟨.inl rfl, Int.le_refl _, fun h2 => ?_⟩
          rcases h with h | h
          · rw [h2] at h; cases h
          · show (opensV b c ts x y).1 ≤ a.1
            omega
        · rename_i h
          have h2 : ¬ (opensV b c ts x y).1 < a.1 := fun g => h (.inr g)
          refine ⟨.inr ⟨?_, rfl⟩, by omega, fun _ => Int.le_refl _⟩
          cases h3 : a.2 with
          | true => rfl
          | false => exact absurd (.inl h3) h
      constructor
      · intro h
        have := (i1 h).1
        rw [hn2] at this
        cases this
      · intro h
        obtain ⟨j1, j2, j3⟩ := i2 h
        have j2 := j2 hn2
        refine ⟨?_, fun h2 => by have := hn1.2.2 h2; omega, fun z hz hzo => ?_⟩
        · rcases j1 with ⟨_, j1⟩ | ⟨z, hz, j1⟩
          · rcases hn1.1 with k | ⟨k1, k2⟩
            · refine .inr ⟨y, List.mem_cons_self .., ?_⟩
              rw [j1, k, ← ho]
            · exact .inl ⟨k1, by rw [j1, k2]⟩
          · exact .inr ⟨z, List.mem_cons_of_mem _ hz, j1⟩
        · rcases List.mem_cons.1 hz with rfl | hz
          · have := hn1.2.1
            omega
          · exact j3 z hz hzo
    · rw [if_neg ho]
      have ho : (opensV b c ts x y).2 = false := by simpa using ho
      obtain ⟨i1, i2⟩ := whenL_spec b c ts x ys a
      constructor
      · intro h
        obtain ⟨j1, j2, j3⟩ := i1 h
        refine ⟨j1, j2, fun z hz => ?_⟩
        rcases List.mem_cons.1 hz with rfl | hz
        · exact ho
        · exact j3 z hz
      · intro h
        obtain ⟨j1, j2, j3⟩ := i2 h
        refine ⟨?_, j2, fun z hz hzo => ?_⟩
        · rcases j1 with j1 | ⟨z, hz, j1⟩
          · exact .inl j1
          · exact .inr ⟨z, List.mem_cons_of_mem _ hz, j1⟩
        · rcases List.mem_cons.1 hz with rfl | hz
          · rw [ho] at hzo; cases hzo
          · exact j3 z hz hzo
end
/-- What When answers of a port to which no list is to come. -/
theorem when_char (b c : Int) (ts : List (Int × Int)) (s : LS) (x : Int) :
    (whenV (PL.new b c ts) s x = (x, true) ∧ ∃ y, y < 8 ∧ fits s (leftOf (PL.new b c ts) x) y) ∨
    ((∀ y, y < 8 → ¬ fits s (leftOf (PL.new b c ts) x) y) ∧
      ((whenV (PL.new b c ts) s x = (0, false) ∧ ∀ y, y < 8 → s.q y ≠ [] → (opensV b c ts x (y : Int)).2 = false) ∨
       ∃ m, whenV (PL.new b c ts) s x = (m, true) ∧ (∃ y, y < 8 ∧ s.q y ≠ [] ∧ opensV b c ts x (y : Int) = (m, true)) ∧ ∀ y, y < 8 → s.q y ≠ [] → (opensV b c ts x (y : Int)).2 = true → m ≤ (opensV b c ts x (y : Int)).1)) := by
  have hturn : (PL.new b c ts).turn x = PL.new b c ts := by
    unfold PL.turn
    exact if_neg (fun h => by have h1 := h.1; cases h1)
  by_cases hf : (clsN s 8).any (fun y => fitB s (leftOf (PL.new b c ts) x) y.toNat) = true
  · refine .inl ⟨by unfold whenV; rw [if_pos hf], ?_⟩
    obtain ⟨y, hy, hyf⟩ := List.any_eq_true.1 hf
    obtain ⟨k, hk, rfl, _⟩ := (clsN_mem s y 8).1 hy
    rw [fitB_iff, Int.toNat_natCast] at hyf
    exact ⟨k, hk, hyf⟩
  · refine .inr ⟨fun y hy hyf => ?_, ?_⟩
    · refine hf (List.any_eq_true.2 ⟨(y : Int), (clsN_mem s _ 8).2 ⟨y, hy, rfl, ?_⟩, by rw [fitB_iff, Int.toNat_natCast]; exact hyf⟩)
      obtain ⟨z, R, hq, _⟩ := hyf
      rw [hq]
      simp
    · have e : whenV (PL.new b c ts) s x = whenL b c ts x (clsN s 8) (0, false) := by
        unfold whenV
        rw [if_neg hf, hturn]
        exact if_neg (fun h => by cases h)
      rw [e]
      obtain ⟨i1, i2⟩ := whenL_spec b c ts x (clsN s 8) (0, false)
      have mem : ∀ y, y < 8 → s.q y ≠ [] → ((y : Nat) : Int) ∈ clsN s 8 := fun y hy hq => (clsN_mem s _ 8).2 ⟨y, hy, rfl, List.length_pos_iff.2 hq⟩
      cases hw : (whenL b c ts x (clsN s 8) (0, false)).2 with
      | false =>
        obtain ⟨_, j2, j3⟩ := i1 hw
        exact .inl ⟨j2, fun y hy hq => j3 _ (mem y hy hq)⟩
      | true =>
        obtain ⟨j1, _, j3⟩ := i2 hw
        refine .inr ⟨(whenL b c ts x (clsN s 8) (0, false)).1, by rw [← hw], ?_, fun y hy hq ho => j3 _ (mem y hy hq) ho⟩
        rcases j1 with ⟨j1, _⟩ | ⟨y, hy, j1⟩
        · cases j1
        · obtain ⟨k, hk, rfl, hq⟩ := (clsN_mem s y 8).1 hy
          exact ⟨k, hk, List.length_pos_iff.1 hq, j1⟩

end Go.Proofs.Ytllmfkodgalklaa
