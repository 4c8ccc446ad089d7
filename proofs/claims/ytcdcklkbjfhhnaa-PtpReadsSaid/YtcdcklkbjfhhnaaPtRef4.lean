/- The reference's Check is the document's. -/
import Derived.Test.YtcdcklkbjfhhnaaPtRef3
import Derived.Test.YtcdcklkbjfhhnaaPtKindsW
namespace Go.Proofs.Ytcdcklkbjfhhnaa
open Go.RowKit Go.Joins

theorem win6 {l : List Int} : l.all (fitB 6) = winB 281474976710655 l := rfl
theorem bad_iff (m : Mg) (ks : List Nat) : ((List.range 14).any (fun i => badB m ks (i + 1))) = false ↔ badB m ks 1 = false ∧ badB m ks 2 = false ∧ badB m ks 3 = false ∧ badB m ks 4 = false ∧ badB m ks 5 = false ∧ badB m ks 6 = false ∧ badB m ks 7 = false ∧ badB m ks 8 = false ∧ badB m ks 9 = false ∧ badB m ks 10 = false ∧ badB m ks 11 = false ∧ badB m ks 12 = false ∧ badB m ks 13 = false ∧ badB m ks 14 = false := by
  rw [List.any_eq_false]
  constructor
  · intro h
    have h2 : ∀ i, i < 14 → badB m ks (i + 1) = false := fun i hi => by simpa using h i (by simp; omega)
    exact ⟨h2 0 (by omega), h2 1 (by omega), h2 2 (by omega), h2 3 (by omega), h2 4 (by omega), h2 5 (by omega), h2 6 (by omega), h2 7 (by omega), h2 8 (by omega), h2 9 (by omega), h2 10 (by omega), h2 11 (by omega), h2 12 (by omega), h2 13 (by omega)⟩
  · rintro ⟨h1, h2, h3, h4, h5, h6, h7, h8, h9, h10, h11, h12, h13, h14⟩ i hi
    have : i = 0 ∨ i = 1 ∨ i = 2 ∨ i = 3 ∨ i = 4 ∨ i = 5 ∨ i = 6 ∨ i = 7 ∨ i = 8 ∨ i = 9 ∨ i = 10 ∨ i = 11 ∨ i = 12 ∨ i = 13 := by simp at hi; omega
    rcases this with rfl | rfl | rfl | rfl | rfl | rfl | rfl | rfl | rfl | rfl | rfl | rfl | rfl | rfl <;> simp only [*] <;> simp

set_option maxHeartbeats 1000000 in
theorem chk6_0 (m : Mg) (hk : m.kind = 0) : chk6 m [1, 2, 3, 4, 5] = m.chk := by
  have e1 : badB m [1, 2, 3, 4, 5] 1 = false ↔ 0 ≤ m.dom ∧ m.dom ≤ 255 := by
    simp [badB, hadB, fitB, mostOf, sizes, nums]
    try omega
  have e2 : badB m [1, 2, 3, 4, 5] 2 = false ↔ 0 ≤ m.seq ∧ m.seq ≤ 65535 := by
    simp [badB, hadB, fitB, mostOf, sizes, nums]
    try omega
  have e3 : badB m [1, 2, 3, 4, 5] 3 = false ↔ 0 ≤ m.src ∧ m.src ≤ 281474976710655 := by
    simp [badB, hadB, fitB, mostOf, sizes, nums]
    try omega
  have e4 : badB m [1, 2, 3, 4, 5] 4 = false ↔ 0 ≤ m.port ∧ m.port ≤ 65535 := by
    simp [badB, hadB, fitB, mostOf, sizes, nums]
    try omega
  have e5 : badB m [1, 2, 3, 4, 5] 5 = false ↔ True := by
    simp [badB, hadB, fitB, mostOf, sizes, nums]
    try omega
  have e6 : badB m [1, 2, 3, 4, 5] 6 = false ↔ m.time = 0 := by
    simp [badB, hadB, fitB, mostOf, sizes, nums]
    try omega
  have e7 : badB m [1, 2, 3, 4, 5] 7 = false ↔ 0 ≤ m.tw ∧ m.tw ≤ 281474976710655 ∧ m.tw = 0 := by
    simp [badB, hadB, fitB, mostOf, sizes, nums]
    try omega
  have e8 : badB m [1, 2, 3, 4, 5] 8 = false ↔ 0 ≤ m.tp ∧ m.tp ≤ 65535 ∧ m.tp = 0 := by
    simp [badB, hadB, fitB, mostOf, sizes, nums]
    try omega
  have e9 : badB m [1, 2, 3, 4, 5] 9 = false ↔ m.rate = 0 := by
    simp [badB, hadB, fitB, mostOf, sizes, nums]
    try omega
  have e10 : badB m [1, 2, 3, 4, 5] 10 = false ↔ 0 ≤ m.one ∧ m.one ≤ 255 ∧ m.one = 0 := by
    simp [badB, hadB, fitB, mostOf, sizes, nums]
    try omega
  have e11 : badB m [1, 2, 3, 4, 5] 11 = false ↔ 0 ≤ m.cls ∧ m.cls ≤ 255 ∧ m.cls = 0 := by
    simp [badB, hadB, fitB, mostOf, sizes, nums]
    try omega
  have e12 : badB m [1, 2, 3, 4, 5] 12 = false ↔ 0 ≤ m.two ∧ m.two ≤ 255 ∧ m.two = 0 := by
    simp [badB, hadB, fitB, mostOf, sizes, nums]
    try omega
  have e13 : badB m [1, 2, 3, 4, 5] 13 = false ↔ 0 ≤ m.id ∧ m.id ≤ 281474976710655 ∧ m.id = 0 := by
    simp [badB, hadB, fitB, mostOf, sizes, nums]
    try omega
  have e14 : badB m [1, 2, 3, 4, 5] 14 = false ↔ 0 ≤ m.steps ∧ m.steps ≤ 255 ∧ m.steps = 0 := by
    simp [badB, hadB, fitB, mostOf, sizes, nums]
    try omega
  have hb := bad_iff m [1, 2, 3, 4, 5]
  rw [e1, e2, e3, e4, e5, e6, e7, e8, e9, e10, e11, e12, e13, e14] at hb
  have hR : (127 < m.dom ∨ ((List.range 14).any (fun i => badB m [1, 2, 3, 4, 5] (i + 1))) = true ∨ (m.kind ≠ 11 ∧ 0 < m.path.length)) ↔ ¬ (winB 127 [m.dom] && winB 65535 [m.seq, m.port, m.tp] && winB 281474976710655 [m.src, m.tw, m.id] && winB 255 [m.one, m.cls, m.two, m.steps] && !m.besB) = true := by
    have hw : (winB 127 [m.dom] && winB 65535 [m.seq, m.port, m.tp] && winB 281474976710655 [m.src, m.tw, m.id] && winB 255 [m.one, m.cls, m.two, m.steps] && !m.besB) = true ↔ (((List.range 14).any (fun i => badB m [1, 2, 3, 4, 5] (i + 1))) = false ∧ m.dom ≤ 127 ∧ (m.kind = 11 ∨ m.path.length = 0)) := by
      rw [hb]
      unfold winB Mg.besB Mg.ans Mg.bestB
      generalize m.path.length = n
      simp [hk]
      omega
    rw [hw]
    clear hw hb
    generalize m.path.length = n
    generalize ((List.range 14).any (fun i => badB m [1, 2, 3, 4, 5] (i + 1))) = bb
    cases bb <;> simp <;> omega
  unfold chk6 Mg.chk
  rw [if_pos (kindB_iff.2 (by omega))]
  by_cases h1 : 127 < m.dom
  · rw [if_pos h1, if_neg (hR.1 (.inl h1))]
  rw [if_neg h1]
  cases h2 : ((List.range 14).any (fun i => badB m [1, 2, 3, 4, 5] (i + 1))) with
  | true => rw [if_pos rfl, if_neg (hR.1 (.inr (.inl h2)))]
  | false =>
    rw [if_neg (by simp)]
    by_cases h3 : m.kind ≠ 11 ∧ 0 < m.path.length
    · rw [if_pos h3, if_neg (hR.1 (.inr (.inr h3)))]
    · have hA := Decidable.not_not.1 (mt hR.2 (by rw [h2]; simp only [Bool.false_eq_true, false_or]; exact fun h => h.elim h1 h3))
      rw [if_neg h3, if_pos hA, win6]

set_option maxHeartbeats 1000000 in
theorem chk6_2 (m : Mg) (hk : m.kind = 2) : chk6 m [1, 2, 3, 4, 5] = m.chk := by
  have e1 : badB m [1, 2, 3, 4, 5] 1 = false ↔ 0 ≤ m.dom ∧ m.dom ≤ 255 := by
    simp [badB, hadB, fitB, mostOf, sizes, nums]
    try omega
  have e2 : badB m [1, 2, 3, 4, 5] 2 = false ↔ 0 ≤ m.seq ∧ m.seq ≤ 65535 := by
    simp [badB, hadB, fitB, mostOf, sizes, nums]
    try omega
  have e3 : badB m [1, 2, 3, 4, 5] 3 = false ↔ 0 ≤ m.src ∧ m.src ≤ 281474976710655 := by
    simp [badB, hadB, fitB, mostOf, sizes, nums]
    try omega
  have e4 : badB m [1, 2, 3, 4, 5] 4 = false ↔ 0 ≤ m.port ∧ m.port ≤ 65535 := by
    simp [badB, hadB, fitB, mostOf, sizes, nums]
    try omega
  have e5 : badB m [1, 2, 3, 4, 5] 5 = false ↔ True := by
    simp [badB, hadB, fitB, mostOf, sizes, nums]
    try omega
  have e6 : badB m [1, 2, 3, 4, 5] 6 = false ↔ m.time = 0 := by
    simp [badB, hadB, fitB, mostOf, sizes, nums]
    try omega
  have e7 : badB m [1, 2, 3, 4, 5] 7 = false ↔ 0 ≤ m.tw ∧ m.tw ≤ 281474976710655 ∧ m.tw = 0 := by
    simp [badB, hadB, fitB, mostOf, sizes, nums]
    try omega
  have e8 : badB m [1, 2, 3, 4, 5] 8 = false ↔ 0 ≤ m.tp ∧ m.tp ≤ 65535 ∧ m.tp = 0 := by
    simp [badB, hadB, fitB, mostOf, sizes, nums]
    try omega
  have e9 : badB m [1, 2, 3, 4, 5] 9 = false ↔ m.rate = 0 := by
    simp [badB, hadB, fitB, mostOf, sizes, nums]
    try omega
  have e10 : badB m [1, 2, 3, 4, 5] 10 = false ↔ 0 ≤ m.one ∧ m.one ≤ 255 ∧ m.one = 0 := by
    simp [badB, hadB, fitB, mostOf, sizes, nums]
    try omega
  have e11 : badB m [1, 2, 3, 4, 5] 11 = false ↔ 0 ≤ m.cls ∧ m.cls ≤ 255 ∧ m.cls = 0 := by
    simp [badB, hadB, fitB, mostOf, sizes, nums]
    try omega
  have e12 : badB m [1, 2, 3, 4, 5] 12 = false ↔ 0 ≤ m.two ∧ m.two ≤ 255 ∧ m.two = 0 := by
    simp [badB, hadB, fitB, mostOf, sizes, nums]
    try omega
  have e13 : badB m [1, 2, 3, 4, 5] 13 = false ↔ 0 ≤ m.id ∧ m.id ≤ 281474976710655 ∧ m.id = 0 := by
    simp [badB, hadB, fitB, mostOf, sizes, nums]
    try omega
  have e14 : badB m [1, 2, 3, 4, 5] 14 = false ↔ 0 ≤ m.steps ∧ m.steps ≤ 255 ∧ m.steps = 0 := by
    simp [badB, hadB, fitB, mostOf, sizes, nums]
    try omega
  have hb := bad_iff m [1, 2, 3, 4, 5]
  rw [e1, e2, e3, e4, e5, e6, e7, e8, e9, e10, e11, e12, e13, e14] at hb
  have hR : (127 < m.dom ∨ ((List.range 14).any (fun i => badB m [1, 2, 3, 4, 5] (i + 1))) = true ∨ (m.kind ≠ 11 ∧ 0 < m.path.length)) ↔ ¬ (winB 127 [m.dom] && winB 65535 [m.seq, m.port, m.tp] && winB 281474976710655 [m.src, m.tw, m.id] && winB 255 [m.one, m.cls, m.two, m.steps] && !m.besB) = true := by
    have hw : (winB 127 [m.dom] && winB 65535 [m.seq, m.port, m.tp] && winB 281474976710655 [m.src, m.tw, m.id] && winB 255 [m.one, m.cls, m.two, m.steps] && !m.besB) = true ↔ (((List.range 14).any (fun i => badB m [1, 2, 3, 4, 5] (i + 1))) = false ∧ m.dom ≤ 127 ∧ (m.kind = 11 ∨ m.path.length = 0)) := by
      rw [hb]
      unfold winB Mg.besB Mg.ans Mg.bestB
      generalize m.path.length = n
      simp [hk]
      omega
    rw [hw]
    clear hw hb
    generalize m.path.length = n
    generalize ((List.range 14).any (fun i => badB m [1, 2, 3, 4, 5] (i + 1))) = bb
    cases bb <;> simp <;> omega
  unfold chk6 Mg.chk
  rw [if_pos (kindB_iff.2 (by omega))]
  by_cases h1 : 127 < m.dom
  · rw [if_pos h1, if_neg (hR.1 (.inl h1))]
  rw [if_neg h1]
  cases h2 : ((List.range 14).any (fun i => badB m [1, 2, 3, 4, 5] (i + 1))) with
  | true => rw [if_pos rfl, if_neg (hR.1 (.inr (.inl h2)))]
  | false =>
    rw [if_neg (by simp)]
    by_cases h3 : m.kind ≠ 11 ∧ 0 < m.path.length
    · rw [if_pos h3, if_neg (hR.1 (.inr (.inr h3)))]
    · have hA := Decidable.not_not.1 (mt hR.2 (by rw [h2]; simp only [Bool.false_eq_true, false_or]; exact fun h => h.elim h1 h3))
      rw [if_neg h3, if_pos hA, win6]

set_option maxHeartbeats 1000000 in
theorem chk6_3 (m : Mg) (hk : m.kind = 3) : chk6 m [1, 2, 3, 4, 5, 6, 7, 8] = m.chk := by
  have e1 : badB m [1, 2, 3, 4, 5, 6, 7, 8] 1 = false ↔ 0 ≤ m.dom ∧ m.dom ≤ 255 := by
    simp [badB, hadB, fitB, mostOf, sizes, nums]
    try omega
  have e2 : badB m [1, 2, 3, 4, 5, 6, 7, 8] 2 = false ↔ 0 ≤ m.seq ∧ m.seq ≤ 65535 := by
    simp [badB, hadB, fitB, mostOf, sizes, nums]
    try omega
  have e3 : badB m [1, 2, 3, 4, 5, 6, 7, 8] 3 = false ↔ 0 ≤ m.src ∧ m.src ≤ 281474976710655 := by
    simp [badB, hadB, fitB, mostOf, sizes, nums]
    try omega
  have e4 : badB m [1, 2, 3, 4, 5, 6, 7, 8] 4 = false ↔ 0 ≤ m.port ∧ m.port ≤ 65535 := by
    simp [badB, hadB, fitB, mostOf, sizes, nums]
    try omega
  have e5 : badB m [1, 2, 3, 4, 5, 6, 7, 8] 5 = false ↔ True := by
    simp [badB, hadB, fitB, mostOf, sizes, nums]
    try omega
  have e6 : badB m [1, 2, 3, 4, 5, 6, 7, 8] 6 = false ↔ True := by
    simp [badB, hadB, fitB, mostOf, sizes, nums]
    try omega
  have e7 : badB m [1, 2, 3, 4, 5, 6, 7, 8] 7 = false ↔ 0 ≤ m.tw ∧ m.tw ≤ 281474976710655 := by
    simp [badB, hadB, fitB, mostOf, sizes, nums]
    try omega
  have e8 : badB m [1, 2, 3, 4, 5, 6, 7, 8] 8 = false ↔ 0 ≤ m.tp ∧ m.tp ≤ 65535 := by
    simp [badB, hadB, fitB, mostOf, sizes, nums]
    try omega
  have e9 : badB m [1, 2, 3, 4, 5, 6, 7, 8] 9 = false ↔ m.rate = 0 := by
    simp [badB, hadB, fitB, mostOf, sizes, nums]
    try omega
  have e10 : badB m [1, 2, 3, 4, 5, 6, 7, 8] 10 = false ↔ 0 ≤ m.one ∧ m.one ≤ 255 ∧ m.one = 0 := by
    simp [badB, hadB, fitB, mostOf, sizes, nums]
    try omega
  have e11 : badB m [1, 2, 3, 4, 5, 6, 7, 8] 11 = false ↔ 0 ≤ m.cls ∧ m.cls ≤ 255 ∧ m.cls = 0 := by
    simp [badB, hadB, fitB, mostOf, sizes, nums]
    try omega
  have e12 : badB m [1, 2, 3, 4, 5, 6, 7, 8] 12 = false ↔ 0 ≤ m.two ∧ m.two ≤ 255 ∧ m.two = 0 := by
    simp [badB, hadB, fitB, mostOf, sizes, nums]
    try omega
  have e13 : badB m [1, 2, 3, 4, 5, 6, 7, 8] 13 = false ↔ 0 ≤ m.id ∧ m.id ≤ 281474976710655 ∧ m.id = 0 := by
    simp [badB, hadB, fitB, mostOf, sizes, nums]
    try omega
  have e14 : badB m [1, 2, 3, 4, 5, 6, 7, 8] 14 = false ↔ 0 ≤ m.steps ∧ m.steps ≤ 255 ∧ m.steps = 0 := by
    simp [badB, hadB, fitB, mostOf, sizes, nums]
    try omega
  have hb := bad_iff m [1, 2, 3, 4, 5, 6, 7, 8]
  rw [e1, e2, e3, e4, e5, e6, e7, e8, e9, e10, e11, e12, e13, e14] at hb
  have hR : (127 < m.dom ∨ ((List.range 14).any (fun i => badB m [1, 2, 3, 4, 5, 6, 7, 8] (i + 1))) = true ∨ (m.kind ≠ 11 ∧ 0 < m.path.length)) ↔ ¬ (winB 127 [m.dom] && winB 65535 [m.seq, m.port, m.tp] && winB 281474976710655 [m.src, m.tw, m.id] && winB 255 [m.one, m.cls, m.two, m.steps] && !m.besB) = true := by
    have hw : (winB 127 [m.dom] && winB 65535 [m.seq, m.port, m.tp] && winB 281474976710655 [m.src, m.tw, m.id] && winB 255 [m.one, m.cls, m.two, m.steps] && !m.besB) = true ↔ (((List.range 14).any (fun i => badB m [1, 2, 3, 4, 5, 6, 7, 8] (i + 1))) = false ∧ m.dom ≤ 127 ∧ (m.kind = 11 ∨ m.path.length = 0)) := by
      rw [hb]
      unfold winB Mg.besB Mg.ans Mg.bestB
      generalize m.path.length = n
      simp [hk]
      omega
    rw [hw]
    clear hw hb
    generalize m.path.length = n
    generalize ((List.range 14).any (fun i => badB m [1, 2, 3, 4, 5, 6, 7, 8] (i + 1))) = bb
    cases bb <;> simp <;> omega
  unfold chk6 Mg.chk
  rw [if_pos (kindB_iff.2 (by omega))]
  by_cases h1 : 127 < m.dom
  · rw [if_pos h1, if_neg (hR.1 (.inl h1))]
  rw [if_neg h1]
  cases h2 : ((List.range 14).any (fun i => badB m [1, 2, 3, 4, 5, 6, 7, 8] (i + 1))) with
  | true => rw [if_pos rfl, if_neg (hR.1 (.inr (.inl h2)))]
  | false =>
    rw [if_neg (by simp)]
    by_cases h3 : m.kind ≠ 11 ∧ 0 < m.path.length
    · rw [if_pos h3, if_neg (hR.1 (.inr (.inr h3)))]
    · have hA := Decidable.not_not.1 (mt hR.2 (by rw [h2]; simp only [Bool.false_eq_true, false_or]; exact fun h => h.elim h1 h3))
      rw [if_neg h3, if_pos hA, win6]

set_option maxHeartbeats 1000000 in
theorem chk6_8 (m : Mg) (hk : m.kind = 8) : chk6 m [1, 2, 3, 4, 5, 6, 9] = m.chk := by
  have e1 : badB m [1, 2, 3, 4, 5, 6, 9] 1 = false ↔ 0 ≤ m.dom ∧ m.dom ≤ 255 := by
    simp [badB, hadB, fitB, mostOf, sizes, nums]
    try omega
  have e2 : badB m [1, 2, 3, 4, 5, 6, 9] 2 = false ↔ 0 ≤ m.seq ∧ m.seq ≤ 65535 := by
    simp [badB, hadB, fitB, mostOf, sizes, nums]
    try omega
  have e3 : badB m [1, 2, 3, 4, 5, 6, 9] 3 = false ↔ 0 ≤ m.src ∧ m.src ≤ 281474976710655 := by
    simp [badB, hadB, fitB, mostOf, sizes, nums]
    try omega
  have e4 : badB m [1, 2, 3, 4, 5, 6, 9] 4 = false ↔ 0 ≤ m.port ∧ m.port ≤ 65535 := by
    simp [badB, hadB, fitB, mostOf, sizes, nums]
    try omega
  have e5 : badB m [1, 2, 3, 4, 5, 6, 9] 5 = false ↔ True := by
    simp [badB, hadB, fitB, mostOf, sizes, nums]
    try omega
  have e6 : badB m [1, 2, 3, 4, 5, 6, 9] 6 = false ↔ True := by
    simp [badB, hadB, fitB, mostOf, sizes, nums]
    try omega
  have e7 : badB m [1, 2, 3, 4, 5, 6, 9] 7 = false ↔ 0 ≤ m.tw ∧ m.tw ≤ 281474976710655 ∧ m.tw = 0 := by
    simp [badB, hadB, fitB, mostOf, sizes, nums]
    try omega
  have e8 : badB m [1, 2, 3, 4, 5, 6, 9] 8 = false ↔ 0 ≤ m.tp ∧ m.tp ≤ 65535 ∧ m.tp = 0 := by
    simp [badB, hadB, fitB, mostOf, sizes, nums]
    try omega
  have e9 : badB m [1, 2, 3, 4, 5, 6, 9] 9 = false ↔ True := by
    simp [badB, hadB, fitB, mostOf, sizes, nums]
    try omega
  have e10 : badB m [1, 2, 3, 4, 5, 6, 9] 10 = false ↔ 0 ≤ m.one ∧ m.one ≤ 255 ∧ m.one = 0 := by
    simp [badB, hadB, fitB, mostOf, sizes, nums]
    try omega
  have e11 : badB m [1, 2, 3, 4, 5, 6, 9] 11 = false ↔ 0 ≤ m.cls ∧ m.cls ≤ 255 ∧ m.cls = 0 := by
    simp [badB, hadB, fitB, mostOf, sizes, nums]
    try omega
  have e12 : badB m [1, 2, 3, 4, 5, 6, 9] 12 = false ↔ 0 ≤ m.two ∧ m.two ≤ 255 ∧ m.two = 0 := by
    simp [badB, hadB, fitB, mostOf, sizes, nums]
    try omega
  have e13 : badB m [1, 2, 3, 4, 5, 6, 9] 13 = false ↔ 0 ≤ m.id ∧ m.id ≤ 281474976710655 ∧ m.id = 0 := by
    simp [badB, hadB, fitB, mostOf, sizes, nums]
    try omega
  have e14 : badB m [1, 2, 3, 4, 5, 6, 9] 14 = false ↔ 0 ≤ m.steps ∧ m.steps ≤ 255 ∧ m.steps = 0 := by
    simp [badB, hadB, fitB, mostOf, sizes, nums]
    try omega
  have hb := bad_iff m [1, 2, 3, 4, 5, 6, 9]
  rw [e1, e2, e3, e4, e5, e6, e7, e8, e9, e10, e11, e12, e13, e14] at hb
  have hR : (127 < m.dom ∨ ((List.range 14).any (fun i => badB m [1, 2, 3, 4, 5, 6, 9] (i + 1))) = true ∨ (m.kind ≠ 11 ∧ 0 < m.path.length)) ↔ ¬ (winB 127 [m.dom] && winB 65535 [m.seq, m.port, m.tp] && winB 281474976710655 [m.src, m.tw, m.id] && winB 255 [m.one, m.cls, m.two, m.steps] && !m.besB) = true := by
    have hw : (winB 127 [m.dom] && winB 65535 [m.seq, m.port, m.tp] && winB 281474976710655 [m.src, m.tw, m.id] && winB 255 [m.one, m.cls, m.two, m.steps] && !m.besB) = true ↔ (((List.range 14).any (fun i => badB m [1, 2, 3, 4, 5, 6, 9] (i + 1))) = false ∧ m.dom ≤ 127 ∧ (m.kind = 11 ∨ m.path.length = 0)) := by
      rw [hb]
      unfold winB Mg.besB Mg.ans Mg.bestB
      generalize m.path.length = n
      simp [hk]
      omega
    rw [hw]
    clear hw hb
    generalize m.path.length = n
    generalize ((List.range 14).any (fun i => badB m [1, 2, 3, 4, 5, 6, 9] (i + 1))) = bb
    cases bb <;> simp <;> omega
  unfold chk6 Mg.chk
  rw [if_pos (kindB_iff.2 (by omega))]
  by_cases h1 : 127 < m.dom
  · rw [if_pos h1, if_neg (hR.1 (.inl h1))]
  rw [if_neg h1]
  cases h2 : ((List.range 14).any (fun i => badB m [1, 2, 3, 4, 5, 6, 9] (i + 1))) with
  | true => rw [if_pos rfl, if_neg (hR.1 (.inr (.inl h2)))]
  | false =>
    rw [if_neg (by simp)]
    by_cases h3 : m.kind ≠ 11 ∧ 0 < m.path.length
    · rw [if_pos h3, if_neg (hR.1 (.inr (.inr h3)))]
    · have hA := Decidable.not_not.1 (mt hR.2 (by rw [h2]; simp only [Bool.false_eq_true, false_or]; exact fun h => h.elim h1 h3))
      rw [if_neg h3, if_pos hA, win6]

set_option maxHeartbeats 1000000 in
theorem chk6_10 (m : Mg) (hk : m.kind = 10) : chk6 m [1, 2, 3, 4, 5, 6, 7, 8] = m.chk := by
  have e1 : badB m [1, 2, 3, 4, 5, 6, 7, 8] 1 = false ↔ 0 ≤ m.dom ∧ m.dom ≤ 255 := by
    simp [badB, hadB, fitB, mostOf, sizes, nums]
    try omega
  have e2 : badB m [1, 2, 3, 4, 5, 6, 7, 8] 2 = false ↔ 0 ≤ m.seq ∧ m.seq ≤ 65535 := by
    simp [badB, hadB, fitB, mostOf, sizes, nums]
    try omega
  have e3 : badB m [1, 2, 3, 4, 5, 6, 7, 8] 3 = false ↔ 0 ≤ m.src ∧ m.src ≤ 281474976710655 := by
    simp [badB, hadB, fitB, mostOf, sizes, nums]
    try omega
  have e4 : badB m [1, 2, 3, 4, 5, 6, 7, 8] 4 = false ↔ 0 ≤ m.port ∧ m.port ≤ 65535 := by
    simp [badB, hadB, fitB, mostOf, sizes, nums]
    try omega
  have e5 : badB m [1, 2, 3, 4, 5, 6, 7, 8] 5 = false ↔ True := by
    simp [badB, hadB, fitB, mostOf, sizes, nums]
    try omega
  have e6 : badB m [1, 2, 3, 4, 5, 6, 7, 8] 6 = false ↔ True := by
    simp [badB, hadB, fitB, mostOf, sizes, nums]
    try omega
  have e7 : badB m [1, 2, 3, 4, 5, 6, 7, 8] 7 = false ↔ 0 ≤ m.tw ∧ m.tw ≤ 281474976710655 := by
    simp [badB, hadB, fitB, mostOf, sizes, nums]
    try omega
  have e8 : badB m [1, 2, 3, 4, 5, 6, 7, 8] 8 = false ↔ 0 ≤ m.tp ∧ m.tp ≤ 65535 := by
    simp [badB, hadB, fitB, mostOf, sizes, nums]
    try omega
  have e9 : badB m [1, 2, 3, 4, 5, 6, 7, 8] 9 = false ↔ m.rate = 0 := by
    simp [badB, hadB, fitB, mostOf, sizes, nums]
    try omega
  have e10 : badB m [1, 2, 3, 4, 5, 6, 7, 8] 10 = false ↔ 0 ≤ m.one ∧ m.one ≤ 255 ∧ m.one = 0 := by
    simp [badB, hadB, fitB, mostOf, sizes, nums]
    try omega
  have e11 : badB m [1, 2, 3, 4, 5, 6, 7, 8] 11 = false ↔ 0 ≤ m.cls ∧ m.cls ≤ 255 ∧ m.cls = 0 := by
    simp [badB, hadB, fitB, mostOf, sizes, nums]
    try omega
  have e12 : badB m [1, 2, 3, 4, 5, 6, 7, 8] 12 = false ↔ 0 ≤ m.two ∧ m.two ≤ 255 ∧ m.two = 0 := by
    simp [badB, hadB, fitB, mostOf, sizes, nums]
    try omega
  have e13 : badB m [1, 2, 3, 4, 5, 6, 7, 8] 13 = false ↔ 0 ≤ m.id ∧ m.id ≤ 281474976710655 ∧ m.id = 0 := by
    simp [badB, hadB, fitB, mostOf, sizes, nums]
    try omega
  have e14 : badB m [1, 2, 3, 4, 5, 6, 7, 8] 14 = false ↔ 0 ≤ m.steps ∧ m.steps ≤ 255 ∧ m.steps = 0 := by
    simp [badB, hadB, fitB, mostOf, sizes, nums]
    try omega
  have hb := bad_iff m [1, 2, 3, 4, 5, 6, 7, 8]
  rw [e1, e2, e3, e4, e5, e6, e7, e8, e9, e10, e11, e12, e13, e14] at hb
  have hR : (127 < m.dom ∨ ((List.range 14).any (fun i => badB m [1, 2, 3, 4, 5, 6, 7, 8] (i + 1))) = true ∨ (m.kind ≠ 11 ∧ 0 < m.path.length)) ↔ ¬ (winB 127 [m.dom] && winB 65535 [m.seq, m.port, m.tp] && winB 281474976710655 [m.src, m.tw, m.id] && winB 255 [m.one, m.cls, m.two, m.steps] && !m.besB) = true := by
    have hw : (winB 127 [m.dom] && winB 65535 [m.seq, m.port, m.tp] && winB 281474976710655 [m.src, m.tw, m.id] && winB 255 [m.one, m.cls, m.two, m.steps] && !m.besB) = true ↔ (((List.range 14).any (fun i => badB m [1, 2, 3, 4, 5, 6, 7, 8] (i + 1))) = false ∧ m.dom ≤ 127 ∧ (m.kind = 11 ∨ m.path.length = 0)) := by
      rw [hb]
      unfold winB Mg.besB Mg.ans Mg.bestB
      generalize m.path.length = n
      simp [hk]
      omega
    rw [hw]
    clear hw hb
    generalize m.path.length = n
    generalize ((List.range 14).any (fun i => badB m [1, 2, 3, 4, 5, 6, 7, 8] (i + 1))) = bb
    cases bb <;> simp <;> omega
  unfold chk6 Mg.chk
  rw [if_pos (kindB_iff.2 (by omega))]
  by_cases h1 : 127 < m.dom
  · rw [if_pos h1, if_neg (hR.1 (.inl h1))]
  rw [if_neg h1]
  cases h2 : ((List.range 14).any (fun i => badB m [1, 2, 3, 4, 5, 6, 7, 8] (i + 1))) with
  | true => rw [if_pos rfl, if_neg (hR.1 (.inr (.inl h2)))]
  | false =>
    rw [if_neg (by simp)]
    by_cases h3 : m.kind ≠ 11 ∧ 0 < m.path.length
    · rw [if_pos h3, if_neg (hR.1 (.inr (.inr h3)))]
    · have hA := Decidable.not_not.1 (mt hR.2 (by rw [h2]; simp only [Bool.false_eq_true, false_or]; exact fun h => h.elim h1 h3))
      rw [if_neg h3, if_pos hA, win6]

set_option maxHeartbeats 1000000 in
theorem chk6_11 (m : Mg) (hk : m.kind = 11) : chk6 m [1, 2, 3, 4, 5, 10, 11, 12, 13, 14] = m.chk := by
  have e1 : badB m [1, 2, 3, 4, 5, 10, 11, 12, 13, 14] 1 = false ↔ 0 ≤ m.dom ∧ m.dom ≤ 255 := by
    simp [badB, hadB, fitB, mostOf, sizes, nums]
    try omega
  have e2 : badB m [1, 2, 3, 4, 5, 10, 11, 12, 13, 14] 2 = false ↔ 0 ≤ m.seq ∧ m.seq ≤ 65535 := by
    simp [badB, hadB, fitB, mostOf, sizes, nums]
    try omega
  have e3 : badB m [1, 2, 3, 4, 5, 10, 11, 12, 13, 14] 3 = false ↔ 0 ≤ m.src ∧ m.src ≤ 281474976710655 := by
    simp [badB, hadB, fitB, mostOf, sizes, nums]
    try omega
  have e4 : badB m [1, 2, 3, 4, 5, 10, 11, 12, 13, 14] 4 = false ↔ 0 ≤ m.port ∧ m.port ≤ 65535 := by
    simp [badB, hadB, fitB, mostOf, sizes, nums]
    try omega
  have e5 : badB m [1, 2, 3, 4, 5, 10, 11, 12, 13, 14] 5 = false ↔ True := by
    simp [badB, hadB, fitB, mostOf, sizes, nums]
    try omega
  have e6 : badB m [1, 2, 3, 4, 5, 10, 11, 12, 13, 14] 6 = false ↔ m.time = 0 := by
    simp [badB, hadB, fitB, mostOf, sizes, nums]
    try omega
  have e7 : badB m [1, 2, 3, 4, 5, 10, 11, 12, 13, 14] 7 = false ↔ 0 ≤ m.tw ∧ m.tw ≤ 281474976710655 ∧ m.tw = 0 := by
    simp [badB, hadB, fitB, mostOf, sizes, nums]
    try omega
  have e8 : badB m [1, 2, 3, 4, 5, 10, 11, 12, 13, 14] 8 = false ↔ 0 ≤ m.tp ∧ m.tp ≤ 65535 ∧ m.tp = 0 := by
    simp [badB, hadB, fitB, mostOf, sizes, nums]
    try omega
  have e9 : badB m [1, 2, 3, 4, 5, 10, 11, 12, 13, 14] 9 = false ↔ m.rate = 0 := by
    simp [badB, hadB, fitB, mostOf, sizes, nums]
    try omega
  have e10 : badB m [1, 2, 3, 4, 5, 10, 11, 12, 13, 14] 10 = false ↔ 0 ≤ m.one ∧ m.one ≤ 255 := by
    simp [badB, hadB, fitB, mostOf, sizes, nums]
    try omega
  have e11 : badB m [1, 2, 3, 4, 5, 10, 11, 12, 13, 14] 11 = false ↔ 0 ≤ m.cls ∧ m.cls ≤ 255 := by
    simp [badB, hadB, fitB, mostOf, sizes, nums]
    try omega
  have e12 : badB m [1, 2, 3, 4, 5, 10, 11, 12, 13, 14] 12 = false ↔ 0 ≤ m.two ∧ m.two ≤ 255 := by
    simp [badB, hadB, fitB, mostOf, sizes, nums]
    try omega
  have e13 : badB m [1, 2, 3, 4, 5, 10, 11, 12, 13, 14] 13 = false ↔ 0 ≤ m.id ∧ m.id ≤ 281474976710655 := by
    simp [badB, hadB, fitB, mostOf, sizes, nums]
    try omega
  have e14 : badB m [1, 2, 3, 4, 5, 10, 11, 12, 13, 14] 14 = false ↔ 0 ≤ m.steps ∧ m.steps ≤ 255 := by
    simp [badB, hadB, fitB, mostOf, sizes, nums]
    try omega
  have hb := bad_iff m [1, 2, 3, 4, 5, 10, 11, 12, 13, 14]
  rw [e1, e2, e3, e4, e5, e6, e7, e8, e9, e10, e11, e12, e13, e14] at hb
  have hR : (127 < m.dom ∨ ((List.range 14).any (fun i => badB m [1, 2, 3, 4, 5, 10, 11, 12, 13, 14] (i + 1))) = true ∨ (m.kind ≠ 11 ∧ 0 < m.path.length)) ↔ ¬ (winB 127 [m.dom] && winB 65535 [m.seq, m.port, m.tp] && winB 281474976710655 [m.src, m.tw, m.id] && winB 255 [m.one, m.cls, m.two, m.steps] && !m.besB) = true := by
    have hw : (winB 127 [m.dom] && winB 65535 [m.seq, m.port, m.tp] && winB 281474976710655 [m.src, m.tw, m.id] && winB 255 [m.one, m.cls, m.two, m.steps] && !m.besB) = true ↔ (((List.range 14).any (fun i => badB m [1, 2, 3, 4, 5, 10, 11, 12, 13, 14] (i + 1))) = false ∧ m.dom ≤ 127 ∧ (m.kind = 11 ∨ m.path.length = 0)) := by
      rw [hb]
      unfold winB Mg.besB Mg.ans Mg.bestB
      generalize m.path.length = n
      simp [hk]
      omega
    rw [hw]
    clear hw hb
    generalize m.path.length = n
    generalize ((List.range 14).any (fun i => badB m [1, 2, 3, 4, 5, 10, 11, 12, 13, 14] (i + 1))) = bb
    cases bb <;> simp <;> omega
  unfold chk6 Mg.chk
  rw [if_pos (kindB_iff.2 (by omega))]
  by_cases h1 : 127 < m.dom
  · rw [if_pos h1, if_neg (hR.1 (.inl h1))]
  rw [if_neg h1]
  cases h2 : ((List.range 14).any (fun i => badB m [1, 2, 3, 4, 5, 10, 11, 12, 13, 14] (i + 1))) with
  | true => rw [if_pos rfl, if_neg (hR.1 (.inr (.inl h2)))]
  | false =>
    rw [if_neg (by simp)]
    by_cases h3 : m.kind ≠ 11 ∧ 0 < m.path.length
    · rw [if_pos h3, if_neg (hR.1 (.inr (.inr h3)))]
    · have hA := Decidable.not_not.1 (mt hR.2 (by rw [h2]; simp only [Bool.false_eq_true, false_or]; exact fun h => h.elim h1 h3))
      rw [if_neg h3, if_pos hA, win6]

end Go.Proofs.Ytcdcklkbjfhhnaa
