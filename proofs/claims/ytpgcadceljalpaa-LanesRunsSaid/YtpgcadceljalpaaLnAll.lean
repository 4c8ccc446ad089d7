/- LanesRuns in plain numbers: one list of all that wait, held against a row for each class. -/
import Derived.Test.YtpgcadceljalpaaLnEq
namespace Go.Proofs.Ytpgcadceljalpaa
open Go.RowKit Go.Joins

abbrev On := Int × It
/-- Those of one class, in order. -/
def ofC (L : List On) (c : Int) : List On := L.filter (fun x => decide (x.1 = c))
theorem ofC_cons (x : On) (L : List On) (c : Int) : ofC (x :: L) c = if x.1 = c then x :: ofC L c else ofC L c := by
  unfold ofC
  by_cases h : x.1 = c <;> simp [h]
theorem ofC_app (L M : List On) (c : Int) : ofC (L ++ M) c = ofC L c ++ ofC M c := by unfold ofC; rw [List.filter_append]
/-- The i-th is the first one of its class. -/
def FirstOf (L : List On) (c : Int) (i : Nat) (x : On) : Prop := L[i]? = some x ∧ x.1 = c ∧ ∀ j y, j < i → L[j]? = some y → y.1 ≠ c
theorem FirstOf.cons {L : List On} {c : Int} {i : Nat} {x z : On} (h : FirstOf (z :: L) c (i + 1) x) : z.1 ≠ c ∧ FirstOf L c i x := by
  obtain ⟨h1, h2, h3⟩ := h
  refine ⟨h3 0 z (by omega) rfl, by simpa using h1, h2, fun j y hj hy => h3 (j + 1) y (by omega) (by simpa using hy)⟩
theorem FirstOf.split : ∀ {L : List On} {c : Int} {i : Nat} {x : On}, FirstOf L c i x → ∃ T, ofC L c = x :: T ∧ ofC (L.eraseIdx i) c = T
  | [], c, i, x, h => by simp [FirstOf] at h
  | z :: L, c, 0, x, h => by
    obtain ⟨h1, h2, _⟩ := h
    simp at h1
    subst h1
    exact ⟨ofC L c, by rw [ofC_cons, if_pos h2], rfl⟩
  | z :: L, c, i + 1, x, h => by
    obtain ⟨hz, h⟩ := h.cons
    obtain ⟨T, h1, h2⟩ := h.split
    refine ⟨T, by rw [ofC_cons, if_neg hz]; exact h1, ?_⟩
    rw [List.eraseIdx_cons_succ, ofC_cons, if_neg hz]
    exact h2
theorem ofC_erase : ∀ {L : List On} {c d : Int} {i : Nat} {x : On}, L[i]? = some x → x.1 = c → d ≠ c → ofC (L.eraseIdx i) d = ofC L d
  | [], c, d, i, x, h, _, _ => by simp at h
  | z :: L, c, d, 0, x, h, hx, hd => by
    simp at h
    subst h
    rw [ofC_cons, if_neg (fun e => hd (e.symm.trans hx))]
    rfl
  | z :: L, c, d, i + 1, x, h, hx, hd => by
    rw [List.eraseIdx_cons_succ, ofC_cons, ofC_cons, ofC_erase (by simpa using h) hx hd]
theorem ofC_nil {L : List On} {c : Int} (h : ∀ i x, ¬ FirstOf L c i x) : ofC L c = [] := by
  induction L with
  | nil => rfl
  | cons z L ih =>
    by_cases hz : z.1 = c
    · exact absurd ⟨rfl, hz, fun j y hj => by omega⟩ (h 0 z)
    · rw [ofC_cons, if_neg hz]
      refine ih fun i x hi => h (i + 1) x ⟨by simpa using hi.1, hi.2.1, fun j y hj hy => ?_⟩
      rcases j with _ | j
      · simp at hy
        subst hy
        exact hz
      · exact hi.2.2 j y (by omega) (by simpa using hy)
theorem ofC_mem {L : List On} {c : Int} {x : On} (h : x ∈ ofC L c) : x ∈ L ∧ x.1 = c := by
  unfold ofC at h
  simpa using h
/-- The list and the lanes say the same. -/
structure All (L : List On) (s : LS) : Prop where
  cl : ∀ x ∈ L, 0 ≤ x.1 ∧ x.1 < 8
  q : ∀ c : Nat, c < 8 → s.q c = (ofC L (c : Int)).map (·.2)
section
variable {L : List On} {s : LS}
theorem All.start (r : Nat → Int) : All [] (LS.new r) := ⟨fun x hx => by simp at hx, fun c _ => rfl⟩
theorem All.clear : All [] s.none := ⟨fun x hx => by simp at hx, fun c _ => rfl⟩
theorem All.same (h : All L s) (l : Nat → Int) : All L { s with lost := l } := ⟨h.cl, h.q⟩
theorem All.put (h : All L s) {c : Nat} (hc : c < 8) (x : It) : All (L ++ [((c : Int), x)]) { s with q := upd s.q c (s.q c ++ [x]) } := by
  refine ⟨fun y hy => ?_, fun d hd => ?_⟩
  · rcases List.mem_append.1 hy with hy | hy
    · exact h.cl y hy
    · simp at hy
      subst hy
      exact ⟨by show (0 : Int) ≤ (c : Int); omega, by show (c : Int) < 8; omega⟩
  · show upd s.q c _ d = _
    rw [ofC_app, List.map_append, ← h.q d hd]
    by_cases e : d = c
    · subst e
      rw [upd_same]
      simp [ofC]
    · rw [upd_other _ _ e]
      have : ¬ ((c : Int) = (d : Int)) := by omega
      simp [ofC, this]
theorem All.first (h : All L s) {c : Nat} (hc : c < 8) {i : Nat} {x : On} (hf : FirstOf L (c : Int) i x) : ∃ T, s.q c = x.2 :: T ∧ All (L.eraseIdx i) { s with q := upd s.q c T } := by
  obtain ⟨T, h1, h2⟩ := hf.split
  refine ⟨T.map (·.2), by rw [h.q c hc, h1]; rfl, fun y hy => h.cl y (List.mem_of_mem_eraseIdx hy), fun d hd => ?_⟩
  show upd s.q c _ d = _
  by_cases e : d = c
  · subst e
    rw [upd_same, h2]
  · rw [upd_other _ _ e, ofC_erase hf.1 hf.2.1 (by omega)]
    exact h.q d hd
theorem All.none_ (h : All L s) {c : Nat} (hc : c < 8) (hn : ∀ i x, ¬ FirstOf L (c : Int) i x) : s.q c = [] := by
  rw [h.q c hc, ofC_nil hn]
  rfl
theorem All.len (h : All L s) {c : Nat} (hc : c < 8) : (s.q c).length = (ofC L (c : Int)).length := by rw [h.q c hc, List.length_map]
theorem ofC_total : ∀ (L : List On), (∀ x ∈ L, 0 ≤ x.1 ∧ x.1 < 8) → (ofC L 0).length + (ofC L 1).length + (ofC L 2).length + (ofC L 3).length + (ofC L 4).length + (ofC L 5).length + (ofC L 6).length + (ofC L 7).length = L.length
  | [], _ => rfl
  | x :: L, h => by
    have ih := ofC_total L (fun y hy => h y (List.mem_cons_of_mem _ hy))
    have hx := h x (List.mem_cons_self ..)
    simp only [ofC_cons, List.length_cons]
    have h8 : x.1 = 0 ∨ x.1 = 1 ∨ x.1 = 2 ∨ x.1 = 3 ∨ x.1 = 4 ∨ x.1 = 5 ∨ x.1 = 6 ∨ x.1 = 7 := by omega
    rcases h8 with e | e | e | e | e | e | e | e <;> rw [e] <;> simp <;> omega
theorem All.tot (h : All L s) : s.tot 8 = L.length := by
  have e := ofC_total L h.cl
  have k := fun c hc => All.len h (c := c) hc
  show 0 + (s.q 0).length + (s.q 1).length + (s.q 2).length + (s.q 3).length + (s.q 4).length + (s.q 5).length + (s.q 6).length + (s.q 7).length = _
  rw [k 0 (by omega), k 1 (by omega), k 2 (by omega), k 3 (by omega), k 4 (by omega), k 5 (by omega), k 6 (by omega), k 7 (by omega)]
  show 0 + (ofC L 0).length + (ofC L 1).length + (ofC L 2).length + (ofC L 3).length + (ofC L 4).length + (ofC L 5).length + (ofC L 6).length + (ofC L 7).length = _
  omega
end

/-- How many of a class there are among the first k, and which of them comes first. -/
def cntN (L : List On) (c : Int) (k : Nat) : Nat := (ofC (L.take k) c).length
def fstN (L : List On) (c : Int) : Nat → Int
  | 0 => -1
  | k + 1 => if fstN L c k < 0 ∧ (L[k]?.map (·.1)) = some c then (k : Int) else fstN L c k
section
variable {L : List On} {c : Int}
theorem cntN_zero : cntN L c 0 = 0 := rfl
theorem cntN_succ {k : Nat} {x : On} (h : L[k]? = some x) : cntN L c (k + 1) = if x.1 = c then cntN L c k + 1 else cntN L c k := by
  unfold cntN
  rw [List.take_add_one, h, ofC_app, List.length_append]
  by_cases e : x.1 = c <;> simp [ofC, e]
theorem cntN_all : cntN L c L.length = (ofC L c).length := by unfold cntN; rw [List.take_length]
theorem fstN_succ {k : Nat} {x : On} (h : L[k]? = some x) : fstN L c (k + 1) = if x.1 = c then (if fstN L c k < 0 then (k : Int) else fstN L c k) else fstN L c k := by
  show (if fstN L c k < 0 ∧ (L[k]?.map (·.1)) = some c then (k : Int) else fstN L c k) = _
  rw [h]
  by_cases e : x.1 = c
  · by_cases e2 : fstN L c k < 0 <;> simp [e, e2]
  · simp [e]
theorem fstN_spec : ∀ k, k ≤ L.length → (fstN L c k = -1 ∧ ∀ j y, j < k → L[j]? = some y → y.1 ≠ c) ∨ ∃ i x, i < k ∧ fstN L c k = (i : Int) ∧ FirstOf L c i x
  | 0, _ => .inl ⟨rfl, fun j y hj => by omega⟩
  | k + 1, hk => by
    obtain ⟨x, hx⟩ : ∃ x, L[k]? = some x := ⟨_, List.getElem?_eq_getElem (by omega)⟩
    rw [fstN_succ hx]
    rcases fstN_spec k (by omega) with ⟨h1, h2⟩ | ⟨i, y, hi, h1, h2⟩
    · by_cases e : x.1 = c
      · rw [if_pos e, h1, if_pos (by omega)]
        exact .inr ⟨k, x, by omega, rfl, hx, e, h2⟩
      · rw [if_neg e]
        refine .inl ⟨h1, fun j y hj hy => ?_⟩
        rcases Nat.lt_or_ge j k with g | g
        · exact h2 j y g hy
        · obtain rfl : j = k := by omega
          rw [hx] at hy
          injection hy with hy
          rw [← hy]
          exact e
    · have hn : ¬ fstN L c k < 0 := by omega
      rw [if_neg hn]
      refine .inr ⟨i, y, by omega, ?_, h2⟩
      split <;> exact h1
end

end Go.Proofs.Ytpgcadceljalpaa
