/- A message's bytes with some missing. -/
import Derived.Test.YtcdcklkbjfhhnaaPtDres
namespace Go.Proofs.Ytcdcklkbjfhhnaa
open Go.RowKit Go.Joins

theorem nval_take {xs : List Nat} {a k n : Nat} (h : k + n ≤ a) (ha : a ≤ xs.length) : nval (xs.take a) ⟨k, false⟩ n = nval xs ⟨k, false⟩ n := by
  have hl : (xs.take a).length = a := by rw [List.length_take]; omega
  unfold nval
  rw [if_neg (by simp; omega), if_neg (by simp; omega)]
  congr 2
  show ((xs.take a).drop k).take n = (xs.drop k).take n
  rw [List.drop_take, List.take_take, Nat.min_eq_left (by omega)]
theorem run_sum {xs : List Nat} {ns : List Nat} {s : St} (h : (run xs s ns).2.mi = false) : (run xs s ns).2 = ⟨s.k + ns.sum, false⟩ := by
  rcases run_back h with ⟨e, _⟩ | ⟨e, e2⟩
  · generalize (run xs s ns).2 = t at h e
    obtain ⟨k, mi⟩ := t
    subst h
    simp only at e
    rw [e]
  · rw [e2] at h ⊢
    subst e
    obtain ⟨k, mi⟩ := s
    subst h
    simp
theorem run_max {xs : List Nat} {ns : List Nat} {s : St} (hs : s.k ≤ xs.length) (h : (run xs s ns).2.mi = false) : s.k + ns.sum ≤ xs.length := by
  have := run_le (ns := ns) hs
  rw [run_sum h] at this
  exact this
theorem mi_of {b : Bool} (h : ¬ b = false) : b = true := by cases b <;> simp at h ⊢

/-- With some missing they are none. -/
theorem dres_cut {m : Mg} (hr : m.Right) (hw : m.Wf) (a : Nat) (ha : a < m.text.length) : (dres (m.text.take a)).1 = 20 := by
  have hlen : (m.text.take a).length = a := by rw [List.length_take]; omega
  rcases Nat.lt_or_ge a 20 with h20 | h20
  · unfold dres; rw [if_pos (by rw [hlen]; exact h20)]
  have hrt := rd_text hr hw []
  rw [List.append_nil] at hrt
  have hk := hr.kind
  have hf := hr.few
  have htl : (m.kind = 0 ∧ m.text.length = 20) ∨ (m.kind = 2 ∧ m.text.length = 20) ∨ (m.kind = 3 ∧ m.text.length = 36) ∨ (m.kind = 8 ∧ m.text.length = 36) ∨ (m.kind = 10 ∧ m.text.length = 36) ∨ (m.kind = 11 ∧ m.text.length = 31 + 6 * m.path.length) := m.text_len hr
  generalize hX : m.text = xs at *
  have h0 : nval (xs.take a) s0 1 = nval xs s0 1 := nval_take (k := 0) (by omega) (by omega)
  have hle0 : s0.k ≤ (xs.take a).length := Nat.zero_le _
  have key : (rd (xs.take a)).1 = 0 ∧ (rd (xs.take a)).2.2.mi = true := by
    obtain ⟨r, hrr⟩ : ∃ r, r = rd xs := ⟨_, rfl⟩
    rw [← hrr] at hrt
    unfold rd at hrr ⊢
    rw [h0]
    split at hrr
    · rw [hrt] at hrr; simp at hrr
    rename_i h1
    rw [if_neg h1]
    split at hrr
    · rw [hrt] at hrr; simp at hrr
    rename_i h2
    rw [if_neg h2]
    split at hrr
    · rename_i h3
      rw [if_pos h3]
      have hkd : m.kind = nval xs s0 1 - 16 := by rw [hrt] at hrr; exact congrArg (fun r : Nat × Mg × St => r.2.1.kind) hrr
      refine ⟨rfl, mi_of fun hmi => ?_⟩
      have := run_max (ns := zA) hle0 hmi
      have hs : s0.k + zA.sum = 36 := rfl
      omega
    rename_i h3
    rw [if_neg h3]
    split at hrr
    · rename_i h4
      rw [if_pos h4]
      have hkd : m.kind = 8 := by rw [hrt] at hrr; exact congrArg (fun r : Nat × Mg × St => r.2.1.kind) hrr
      refine ⟨rfl, mi_of fun hmi => ?_⟩
      have := run_max (ns := zF) hle0 hmi
      have hs : s0.k + zF.sum = 36 := rfl
      omega
    rename_i h4
    rw [if_neg h4]
    split at hrr
    · rename_i h5
      rw [if_pos h5]
      split at hrr
      · rw [hrt] at hrr; simp at hrr
      rename_i hC
      have hkd : m.kind = 11 := by rw [hrt] at hrr; exact congrArg (fun r : Nat × Mg × St => r.2.1.kind) hrr
      have hpth : m.path = (paths xs).1 := by rw [hrt] at hrr; exact congrArg (fun r : Nat × Mg × St => r.2.1.path) hrr
      have hst : (⟨xs.length, false⟩ : St) = (paths xs).2 := by rw [hrt] at hrr; exact congrArg (fun r : Nat × Mg × St => r.2.2) hrr
      have hpl : (paths xs).1.length = (clocks xs).toNat := by unfold paths; rw [run_len, List.length_replicate]
      have hmN : (run xs s0 zN).2.mi = false := run_mi (ns := List.replicate (clocks xs).toNat 6) (by
        have : (paths xs).2.mi = false := by rw [← hst]
        exact this)
      have hN31 := run_sum hmN
      have hclk : clocks xs = nval xs ⟨30, false⟩ 1 := by
        have h11 : (run xs s0 [1, 1, 2, 6, 2, 8, 1, 1, 1, 6, 1]).2.mi = false := (nst_ok (xs := xs) (n := 1) hmN).1
        have hs := run_sum h11
        have e : clocks xs = nval xs (run xs s0 [1, 1, 2, 6, 2, 8, 1, 1, 1, 6, 1]).2 1 := rfl
        rw [e, hs]; rfl
      -- the clocks' number, as far as it is there
      have hz : clocks (xs.take a) = nval (xs.take a) (run (xs.take a) s0 [1, 1, 2, 6, 2, 8, 1, 1, 1, 6, 1]).2 1 := rfl
      have hzN : (run (xs.take a) s0 zN).2 = nst (xs.take a) (run (xs.take a) s0 [1, 1, 2, 6, 2, 8, 1, 1, 1, 6, 1]).2 1 := rfl
      by_cases hm1 : (run (xs.take a) s0 zN).2.mi = false
      · have hs11 : (run (xs.take a) s0 [1, 1, 2, 6, 2, 8, 1, 1, 1, 6, 1]).2.mi = false := by rw [hzN] at hm1; exact (nst_ok hm1).1
        have hs30 := run_sum hs11
        have h31 := run_max (ns := zN) hle0 hm1
        have hs31 : s0.k + zN.sum = 31 := rfl
        have hce : clocks (xs.take a) = clocks xs := by
          rw [hz, hs30, hclk]
          exact nval_take (k := 30) (by omega) (by omega)
        rw [if_neg (by rw [hce]; exact hC)]
        refine ⟨rfl, mi_of fun hmi => ?_⟩
        have hmi2 : (run (xs.take a) (run (xs.take a) s0 zN).2 (List.replicate (clocks (xs.take a)).toNat 6)).2.mi = false := hmi
        have := run_max (run_le hle0) hmi2
        rw [run_sum hm1, hce, sum_rep, ← hpl, ← hpth] at this
        have this2 : 31 + 6 * m.path.length ≤ (xs.take a).length := this
        omega
      · have hmt := mi_of hm1
        have hc0 : clocks (xs.take a) = 0 := by
          rw [hz]
          rw [hzN] at hmt
          unfold nst at hmt
          unfold nval
          split at hmt
          · rename_i hc; rw [if_pos hc]
          · simp at hmt
        rw [if_neg (by rw [hc0]; omega)]
        refine ⟨rfl, mi_of fun hmi => ?_⟩
        have hmi2 : (run (xs.take a) (run (xs.take a) s0 zN).2 (List.replicate (clocks (xs.take a)).toNat 6)).2.mi = false := hmi
        exact hm1 (run_mi hmi2)
    · rename_i h5
      rw [if_neg h5]
      have hkd : m.kind = nval xs s0 1 - 16 := by rw [hrt] at hrr; exact congrArg (fun r : Nat × Mg × St => r.2.1.kind) hrr
      have h6 := kindB_iff.1 (Bool.not_eq_false _ ▸ h2)
      omega
  unfold dres
  rw [if_neg (by omega), if_neg (by simp [key.1]), if_pos key.2]

end Go.Proofs.Ytcdcklkbjfhhnaa
