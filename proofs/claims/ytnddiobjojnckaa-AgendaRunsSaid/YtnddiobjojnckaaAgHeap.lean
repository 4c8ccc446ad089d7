/- What is to come, as a heap: plain mathematics. -/
import Derived.Test.YtnddiobjojnckaaRows
namespace Go.Proofs.Ytnddiobjojnckaa

/-- Something that is to come: its block, its time, its number, what it is. -/
structure Ent where
  blk : Nat
  at_ : Int
  turn : Int
  what : Int
def e0 : Ent := ⟨0, 0, 0, 0⟩
def Lt (a b : Ent) : Prop := a.at_ < b.at_ ∨ (a.at_ = b.at_ ∧ a.turn < b.turn)
def ltb (a b : Ent) : Bool := if a.at_ = b.at_ then decide (a.turn < b.turn) else decide (a.at_ < b.at_)
theorem ltb_true {a b : Ent} (h : ltb a b = true) : Lt a b := by
  unfold ltb at h
  unfold Lt
  split at h <;> have := of_decide_eq_true h <;> omega
theorem ltb_false {a b : Ent} (h : ltb a b = false) : ¬ Lt a b := by
  unfold ltb at h
  unfold Lt
  split at h <;> have := of_decide_eq_false h <;> omega
theorem Lt.asymm {a b : Ent} (h : Lt a b) : ¬ Lt b a := by unfold Lt at *; omega
theorem Lt.trans {a b c : Ent} (h : Lt a b) (k : Lt b c) : Lt a c := by unfold Lt at *; omega
theorem not_lt_trans {a b c : Ent} (h : ¬ Lt a b) (k : ¬ Lt b c) : ¬ Lt a c := by unfold Lt at *; omega

def el (l : List Ent) (k : Nat) : Ent := l.getD k e0
def swp (l : List Ent) (i j : Nat) : List Ent := (l.set i (el l j)).set j (el l i)
theorem swp_len (l : List Ent) (i j : Nat) : (swp l i j).length = l.length := by simp [swp]
theorem el_set (l : List Ent) (i k : Nat) (x : Ent) (hi : i < l.length) : el (l.set i x) k = if k = i then x else el l k := by
  unfold el
  rw [List.getD_eq_getElem?_getD, List.getElem?_set, List.getD_eq_getElem?_getD]
  by_cases h : i = k
  · subst h; simp [hi]
  · rw [if_neg h, if_neg (fun e => h e.symm)]
theorem el_swp {l : List Ent} {i j : Nat} (hi : i < l.length) (hj : j < l.length) (k : Nat) : el (swp l i j) k = if k = j then el l i else if k = i then el l j else el l k := by
  unfold swp
  rw [el_set _ _ _ _ (by simpa using hj), el_set _ _ _ _ hi]
theorem swp_perm {l : List Ent} {i j : Nat} (hi : i < l.length) (hj : j < l.length) : (swp l i j).Perm l := by
  have h := Array.swap_perm (xs := l.toArray) (i := i) (j := j) (by simpa using hi) (by simpa using hj)
  have h2 := h.toList
  rw [Array.toList_swap] at h2
  unfold swp el
  rw [List.getD_eq_getElem?_getD, List.getD_eq_getElem?_getD, List.getElem?_eq_getElem hi, List.getElem?_eq_getElem hj]
  simpa using h2
theorem swp_mem {l : List Ent} {i j : Nat} (hi : i < l.length) (hj : j < l.length) {e : Ent} (h : e ∈ swp l i j) : e ∈ l := (swp_perm hi hj).mem_iff.1 h

def par (k : Nat) : Nat := (k - 1) / 2
def Hp (l : List Ent) (n : Nat) : Prop := ∀ k, 0 < k → k < n → ¬ Lt (el l k) (el l (par k))
def UpI (l : List Ent) (n j : Nat) : Prop :=
  (∀ k, 0 < k → k < n → k ≠ j → ¬ Lt (el l k) (el l (par k))) ∧ (∀ c, 0 < c → c < n → par c = j → 0 < j → ¬ Lt (el l c) (el l (par j)))
def DnI (l : List Ent) (n i0 i : Nat) : Prop :=
  (∀ k, 0 < k → k < n → par k ≠ i → (k = i0 ∧ i = i0) ∨ ¬ Lt (el l k) (el l (par k))) ∧ (∀ c, 0 < c → c < n → par c = i → 0 < i → ¬ Lt (el l c) (el l (par i)))
theorem par_lt {k : Nat} (h : 0 < k) : par k < k := by unfold par; omega

theorem up_step {l : List Ent} {n j : Nat} (hn : n ≤ l.length) (h0 : 0 < j) (hj : j < n) (h : UpI l n j) (hlt : Lt (el l j) (el l (par j))) : UpI (swp l (par j) j) n (par j) := by
  have hp := par_lt h0
  have hi : par j < l.length := by omega
  have hj' : j < l.length := by omega
  obtain ⟨h1, h2⟩ := h
  refine ⟨fun k hk0 hk hne => ?_, fun c hc0 hc hpc hp0 => ?_⟩
  · have hpk := par_lt hk0
    rw [el_swp hi hj', el_swp hi hj']
    by_cases e1 : k = j
    · subst e1
      rw [if_pos rfl, if_neg (by omega), if_pos rfl]
      exact hlt.asymm
    · rw [if_neg e1, if_neg hne]
      by_cases e2 : par k = j
      · rw [if_pos e2]
        exact h2 k hk0 hk e2 h0
      · rw [if_neg e2]
        by_cases e3 : par k = par j
        · rw [if_pos e3]
          have := h1 k hk0 hk e1
          rw [e3] at this
          exact fun hh => this (hh.trans hlt)
        · rw [if_neg e3]
          exact h1 k hk0 hk e1
  · have hpp := par_lt hp0
    have hpc' := par_lt hc0
    rw [el_swp hi hj', el_swp hi hj']
    rw [if_neg (show ¬ par (par j) = j by omega), if_neg (show ¬ par (par j) = par j by omega)]
    have hu := h1 (par j) hp0 (by omega) (by omega)
    by_cases e1 : c = j
    · rw [if_pos e1]; exact hu
    · rw [if_neg e1, if_neg (by omega)]
      have := h1 c hc0 hc e1
      rw [hpc] at this
      exact not_lt_trans this hu
theorem up_end {l : List Ent} {n j : Nat} (h : UpI l n j) (he : j = 0 ∨ ¬ Lt (el l j) (el l (par j))) : Hp l n := by
  intro k hk0 hk
  by_cases e : k = j
  · subst e
    rcases he with he | he
    · omega
    · exact he
  · exact h.1 k hk0 hk e
theorem dn_step {l : List Ent} {n i0 i c : Nat} (hn : n ≤ l.length) (hi0 : i0 ≤ i) (hc0 : 0 < c) (hc : c < n) (hpc : par c = i) (h : DnI l n i0 i) (hmin : ∀ d, 0 < d → d < n → par d = i → ¬ Lt (el l d) (el l c)) (hlt : Lt (el l c) (el l i)) :
    DnI (swp l i c) n i0 c := by
  have hp := par_lt hc0
  have hi : i < l.length := by omega
  have hc' : c < l.length := by omega
  obtain ⟨h1, h2⟩ := h
  refine ⟨fun k hk0 hk hne => .inr ?_, fun d hd0 hd hpd hcp => ?_⟩
  · have hpk := par_lt hk0
    rw [el_swp hi hc', el_swp hi hc', if_neg hne]
    by_cases e1 : k = c
    · subst e1
      rw [if_pos rfl, if_pos hpc]
      exact hlt.asymm
    · rw [if_neg e1]
      by_cases e2 : k = i
      · subst e2
        rw [if_pos rfl, if_neg (by omega)]
        exact h2 c hc0 hc hpc hk0
      · rw [if_neg e2]
        by_cases e3 : par k = i
        · rw [if_pos e3]
          exact hmin k hk0 hk e3
        · rw [if_neg e3]
          rcases h1 k hk0 hk e3 with ⟨e4, e5⟩ | h4
          · omega
          · exact h4
  · have hpd' := par_lt hd0
    rw [el_swp hi hc', el_swp hi hc', if_neg (by omega), if_neg (by omega), if_neg (by omega), if_pos hpc]
    rcases h1 d hd0 hd (by omega) with ⟨e4, e5⟩ | h4
    · omega
    · rw [hpd] at h4; exact h4
theorem dn_end {l : List Ent} {n i0 i : Nat} (hi0 : i0 ≤ i) (h : DnI l n i0 i) (hmin : ∀ d, 0 < d → d < n → par d = i → ¬ Lt (el l d) (el l i)) : (i0 < i → Hp l n) ∧ (i = i0 → UpI l n i0) := by
  refine ⟨fun hlt k hk0 hk => ?_, fun e => ⟨fun k hk0 hk hne => ?_, fun c hc0 hc hpc hp0 => ?_⟩⟩
  · by_cases e : par k = i
    · rw [e]; exact hmin k hk0 hk e
    · rcases h.1 k hk0 hk e with ⟨_, e2⟩ | h4
      · omega
      · exact h4
  · subst e
    by_cases e : par k = i
    · rw [e]; exact hmin k hk0 hk e
    · rcases h.1 k hk0 hk e with ⟨e1, _⟩ | h4
      · exact absurd e1 hne
      · exact h4
  · subst e
    exact h.2 c hc0 hc hpc hp0
/-- What goes to a place from behind all others. -/
theorem dn_start {l : List Ent} {n i : Nat} (hl : l.length = n + 1) (hi : i < n) (h : Hp l (n + 1)) : DnI (swp l i n) n i i := by
  have hi' : i < l.length := by omega
  have hn' : n < l.length := by omega
  refine ⟨fun k hk0 hk hne => ?_, fun c hc0 hc hpc hp0 => ?_⟩
  · have hpk := par_lt hk0
    by_cases e : k = i
    · exact .inl ⟨e, rfl⟩
    · refine .inr ?_
      rw [el_swp hi' hn', el_swp hi' hn', if_neg (by omega), if_neg e, if_neg (by omega), if_neg hne]
      exact h k hk0 (by omega)
  · have hpi := par_lt hp0
    have hpc' := par_lt hc0
    rw [el_swp hi' hn', el_swp hi' hn', if_neg (by omega), if_neg (by omega), if_neg (by omega), if_neg (by omega)]
    have h1 := h c hc0 (by omega)
    have h2 := h i hp0 (by omega)
    rw [hpc] at h1
    exact not_lt_trans h1 h2
theorem Hp.min {l : List Ent} {n : Nat} (h : Hp l n) : ∀ k, k < n → ¬ Lt (el l k) (el l 0) := by
  intro k
  induction k using Nat.strongRecOn with
  | ind k ih =>
    intro hk
    rcases Nat.eq_zero_or_pos k with rfl | h0
    · unfold Lt; omega
    · have hp := par_lt h0
      exact not_lt_trans (h k h0 hk) (ih (par k) hp (by omega))
theorem Hp.mono {l : List Ent} {n m : Nat} (h : Hp l n) (hm : m ≤ n) : Hp l m := fun k h0 hk => h k h0 (by omega)
theorem el_app (l : List Ent) (e : Ent) (k : Nat) : el (l ++ [e]) k = if k < l.length then el l k else if k = l.length then e else e0 := by
  unfold el
  rw [List.getD_eq_getElem?_getD, List.getElem?_append]
  by_cases h : k < l.length
  · rw [if_pos h, if_pos h, List.getD_eq_getElem?_getD]
  · rw [if_neg h, if_neg h]
    by_cases h2 : k = l.length
    · subst h2; simp
    · rw [if_neg h2]
      rw [List.getElem?_eq_none (by simp; omega)]; rfl
theorem push_start {l : List Ent} (e : Ent) (h : Hp l l.length) : UpI (l ++ [e]) (l.length + 1) l.length := by
  refine ⟨fun k hk0 hk hne => ?_, fun c hc0 hc hpc hp0 => ?_⟩
  · have hp := par_lt hk0
    rw [el_app, el_app, if_pos (by omega), if_pos (by omega)]
    exact h k hk0 (by omega)
  · have := par_lt hc0
    omega
theorem el_take (l : List Ent) (n k : Nat) (h : k < n) : el (l.take n) k = el l k := by
  unfold el
  rw [List.getD_eq_getElem?_getD, List.getElem?_take, if_pos h, List.getD_eq_getElem?_getD]
theorem Hp.take {l : List Ent} {n : Nat} (h : Hp l n) : Hp (l.take n) n := fun k h0 hk => by
  have := par_lt h0
  rw [el_take _ _ _ hk, el_take _ _ _ (by omega)]
  exact h k h0 hk
theorem take_last {l : List Ent} {n : Nat} (hl : l.length = n + 1) : l = l.take n ++ [el l n] := by
  have h := List.take_succ_eq_append_getElem (show n < l.length by omega)
  rw [List.take_of_length_le (by omega)] at h
  unfold el
  rw [List.getD_eq_getElem?_getD, List.getElem?_eq_getElem (by omega)]
  exact h
theorem last_perm {l : List Ent} {n : Nat} (hl : l.length = n + 1) : (el l n :: l.take n).Perm l := by
  conv => rhs; rw [take_last hl]
  exact (List.perm_append_singleton _ _).symm
theorem el_mem {l : List Ent} {k : Nat} (h : k < l.length) : el l k ∈ l := by
  unfold el
  rw [List.getD_eq_getElem?_getD, List.getElem?_eq_getElem h]
  exact List.getElem_mem h

end Go.Proofs.Ytnddiobjojnckaa
