/- What a sieve has counted, in plain numbers. -/
import Derived.Test.YtpdfgdjomlogbabSvOpen
namespace Go.Proofs.Ytpdfgdjomlogbab
open Go.RowKit Go.Joins

def tot (f : Fl) : Int := f.c0 + f.c1 + f.c2 + f.c3 + f.c4 + f.c5
def Pos (f : Fl) : Prop := 0 ≤ f.c0 ∧ 0 ≤ f.c1 ∧ 0 ≤ f.c2 ∧ 0 ≤ f.c3 ∧ 0 ≤ f.c4 ∧ 0 ≤ f.c5
def sumT : List Fl → Int
  | [] => 0
  | f :: L => tot f + sumT L
def AllP (L : List Fl) : Prop := ∀ k, k < L.length → Pos (L.getD k default)
theorem AllP.tail {f : Fl} {L : List Fl} (h : AllP (f :: L)) : AllP L := fun k hk => by have := h (k + 1) (by simp; omega); simpa using this
theorem AllP.head {f : Fl} {L : List Fl} (h : AllP (f :: L)) : Pos f := by have := h 0 (by simp); simpa using this
theorem Pos.tot {f : Fl} (h : Pos f) : 0 ≤ tot f := by obtain ⟨h0, h1, h2, h3, h4, h5⟩ := h; unfold Proofs.Ytpdfgdjomlogbab.tot; omega
theorem sumT_pos : ∀ {L : List Fl}, AllP L → 0 ≤ sumT L
  | [], _ => by simp [sumT]
  | f :: L, h => by have := sumT_pos h.tail; have := h.head.tot; simp only [sumT]; omega
theorem sumT_set : ∀ (L : List Fl) (k : Nat) (f : Fl), k < L.length → sumT (L.set k f) = sumT L - tot (L.getD k default) + tot f
  | [], k, _, h => by simp at h
  | x :: L, 0, f, _ => by simp [sumT]; omega
  | x :: L, k + 1, f, h => by
    have := sumT_set L k f (by simpa using h)
    simp only [List.set_cons_succ, sumT, this, List.getD_cons_succ]; omega
theorem sumT_take : ∀ (L : List Fl) (k : Nat), k < L.length → sumT (L.take (k + 1)) = sumT (L.take k) + tot (L.getD k default)
  | [], k, h => by simp at h
  | x :: L, 0, _ => by simp [sumT]
  | x :: L, k + 1, h => by
    have := sumT_take L k (by simpa using h)
    simp only [List.take_succ_cons, sumT, this, List.getD_cons_succ]; omega
theorem allP_set {L : List Fl} (h : AllP L) (k : Nat) {f : Fl} (hf : Pos f) : AllP (L.set k f) := fun i hi => by
  rw [List.length_set] at hi
  rw [List.getD_eq_getElem?_getD, List.getElem?_set]
  by_cases e : k = i
  · subst e; simp [hi, hf]
  · rw [if_neg e, ← List.getD_eq_getElem?_getD]; exact h i hi
theorem allP_take {L : List Fl} (h : AllP L) (n : Nat) : AllP (L.take n) := fun i hi => by
  rw [List.length_take] at hi
  rw [List.getD_eq_getElem?_getD, List.getElem?_take, if_pos (by omega), ← List.getD_eq_getElem?_getD]
  exact h i (by omega)
theorem sumT_part {L : List Fl} (h : AllP L) : ∀ k, k ≤ L.length → sumT (L.take k) ≤ sumT L
  | k, hk => by
    have : ∀ (M : List Fl), AllP M → ∀ k, sumT (M.take k) ≤ sumT M := by
      intro M
      induction M with
      | nil => intro _ k; simp [sumT]
      | cons f M ih =>
        intro hM k
        cases k with
        | zero => simp only [List.take_zero, sumT]; have := sumT_pos hM.tail; have := hM.head.tot; omega
        | succ k => simp only [List.take_succ_cons, sumT]; have := ih hM.tail k; omega
    exact this L h k
/-- All that came is counted: m frames. -/
structure Cz (S : List Sm) (L : List Fl) (oth : Int) (m : Nat) : Prop where
  len : L.length = S.length
  st : ∀ k, k < S.length → (L.getD k default).st = S.getD k default
  pos : AllP L
  o : 0 ≤ oth
  sum : sumT L + oth = (m : Int)
theorem sumT_fl0 : ∀ L : List Sm, sumT (L.map fl0) = 0
  | [] => rfl
  | x :: L => by simp [sumT, sumT_fl0 L, tot, fl0]
theorem getD_fl0 (L : List Sm) {k : Nat} (hk : k < L.length) : (L.map fl0).getD k default = fl0 (L.getD k default) := by
  simp [List.getD_eq_getElem?_getD, hk]
theorem Cz.zero (S : List Sm) : Cz S (S.map fl0) 0 0 :=
  ⟨by simp, fun k hk => by rw [getD_fl0 S hk]; rfl, fun k hk => by rw [List.length_map] at hk; rw [getD_fl0 S hk]; exact ⟨by simp [fl0], by simp [fl0], by simp [fl0], by simp [fl0], by simp [fl0], by simp [fl0]⟩, by omega, by rw [sumT_fl0]; rfl⟩
theorem wrap_small {x : Int} (h0 : 0 ≤ x) (h1 : x ≤ 1000) : wrap64 (x + 1) = x + 1 := by
  unfold wrap64; omega
section
variable {S : List Sm} {L : List Fl} {oth : Int} {m : Nat}
theorem Cz.other (h : Cz S L oth m) (hm : m ≤ 80) : Cz S L (wrap64 (oth + 1)) (m + 1) := by
  have h0 := sumT_pos h.pos
  have hs := h.sum
  have ho := h.o
  rw [wrap_small ho (by omega)]
  exact ⟨h.len, h.st, h.pos, by omega, by push_cast; omega⟩
theorem Cz.set (h : Cz S L oth m) {k : Nat} (hk : k < S.length) (f : Fl) (hst : f.st = (L.getD k default).st) (hp : Pos f) (d : Nat) (ht : tot f = tot (L.getD k default) + (d : Int)) : Cz S (L.set k f) oth (m + d) := by
  have hkl : k < L.length := by rw [h.len]; exact hk
  refine ⟨by rw [List.length_set]; exact h.len, fun i hi => ?_, allP_set h.pos k hp, h.o, ?_⟩
  · rw [List.getD_eq_getElem?_getD, List.getElem?_set]
    by_cases e : k = i
    · subst e; simp only [if_true, hkl]; simp only [Option.getD_some]; rw [hst]; exact h.st k hk
    · rw [if_neg e, ← List.getD_eq_getElem?_getD]; exact h.st i hi
  · rw [sumT_set L k f hkl, ht]; have := h.sum; push_cast; omega
theorem Cz.one (h : Cz S L oth m) {k : Nat} (hk : k < S.length) : tot (L.getD k default) ≤ (m : Int) := by
  have h1 := sumT_part h.pos (k + 1) (by rw [h.len]; omega)
  rw [sumT_take L k (by rw [h.len]; exact hk)] at h1
  have := sumT_pos (allP_take h.pos k)
  have := h.sum
  have := h.o
  omega
theorem passF_tot (f : Fl) (size : Int) : tot (passF f size) = tot f ∧ (Pos f → Pos (passF f size)) := by
  unfold passF
  split
  · exact ⟨rfl, id⟩
  · split
    · exact ⟨rfl, id⟩
    · exact ⟨rfl, id⟩
theorem bump_tot {f : Fl} (w : Int) (hp : Pos f) (ht : tot f ≤ 1000) : tot (bump f w) = tot f + 1 ∧ Pos (bump f w) ∧ (bump f w).st = f.st := by
  obtain ⟨p0, p1, p2, p3, p4, p5⟩ := hp
  have ht' := ht
  unfold tot at ht'
  unfold bump
  split
  · rw [wrap_small p0 (by omega)]; exact ⟨by simp only [tot]; omega, ⟨by show 0 ≤ f.c0 + 1; omega, p1, p2, p3, p4, p5⟩, rfl⟩
  · split
    · rw [wrap_small p2 (by omega)]; exact ⟨by simp only [tot]; omega, ⟨p0, p1, by show 0 ≤ f.c2 + 1; omega, p3, p4, p5⟩, rfl⟩
    · rw [wrap_small p5 (by omega)]; exact ⟨by simp only [tot]; omega, ⟨p0, p1, p2, p3, p4, by show 0 ≤ f.c5 + 1; omega⟩, rfl⟩
theorem Cz.frame (h : Cz S L oth m) (hm : m ≤ 80) {k : Nat} (hk : k < S.length) (size : Int) :
    Cz S ((L.set k (passF (L.getD k default) size)).set k (bump (passF (L.getD k default) size) (passV (L.getD k default) size))) oth (m + 1) := by
  have hp := h.pos k (by rw [h.len]; exact hk)
  have h1 := h.one hk
  obtain ⟨t1, t2⟩ := passF_tot (L.getD k default) size
  obtain ⟨b1, b2, b3⟩ := bump_tot (passV (L.getD k default) size) (t2 hp) (by omega)
  rw [List.set_set]
  exact h.set hk _ (by rw [b3, passF_st]) b2 1 (by rw [b1, t1]; rfl)
theorem Cz.opened (h : Cz S L oth m) {k : Nat} (hk : k < S.length) : Cz S (L.set k { L.getD k default with bl := false }) oth m := by
  have hp := h.pos k (by rw [h.len]; exact hk)
  have := h.set hk { L.getD k default with bl := false } rfl hp 0 (by simp [tot])
  simpa using this
end
/-- What is counted of the first ones: behind them of none. -/
def preC (L : List Fl) (oth : Int) (k : Nat) : Int := sumT (L.take k) + if L.length < k then oth else 0
def cnt (L : List Fl) (oth : Int) (k : Nat) : Fl := if k < L.length then L.getD k default else { (default : Fl) with c0 := 0, c1 := oth, c2 := 0, c3 := 0, c4 := 0, c5 := 0 }
theorem preC_succ (L : List Fl) (oth : Int) {k : Nat} (hk : k ≤ L.length) : preC L oth (k + 1) = preC L oth k + tot (cnt L oth k) := by
  unfold preC cnt
  rw [if_neg (show ¬ L.length < k by omega)]
  rcases Nat.lt_or_ge k L.length with h | h
  · rw [if_neg (by omega), if_pos h, sumT_take L k h]; omega
  · rw [if_pos (by omega), if_neg (by omega), List.take_of_length_le (by omega), List.take_of_length_le (by omega)]
    simp only [tot]; omega
theorem preC_zero (L : List Fl) (oth : Int) : preC L oth 0 = 0 := by simp [preC, sumT]
theorem Cz.preC_all {S : List Sm} {L : List Fl} {oth : Int} {m : Nat} (h : Cz S L oth m) : preC L oth (S.length + 1) = (m : Int) := by
  unfold preC
  rw [if_pos (by rw [h.len]; omega), List.take_of_length_le (by rw [h.len]; omega), h.sum]
theorem Cz.cnt_pos {S : List Sm} {L : List Fl} {oth : Int} {m : Nat} (h : Cz S L oth m) (k : Nat) : Pos (cnt L oth k) := by
  unfold cnt
  split
  · next hk => exact h.pos k hk
  · exact ⟨Int.le_refl _, h.o, Int.le_refl _, Int.le_refl _, Int.le_refl _, Int.le_refl _⟩
theorem Cz.preC_le {S : List Sm} {L : List Fl} {oth : Int} {m : Nat} (h : Cz S L oth m) {k : Nat} (_ : k ≤ S.length + 1) : 0 ≤ preC L oth k ∧ preC L oth k ≤ (m : Int) := by
  have h0 := sumT_pos (allP_take h.pos k)
  have h3 := h.sum
  have h4 := h.o
  have h5 := sumT_pos h.pos
  rcases Nat.lt_or_ge L.length k with g | g
  · unfold preC; rw [if_pos g, List.take_of_length_le (by omega)]; omega
  · have := sumT_part h.pos k g
    unfold preC; rw [if_neg (by omega)]; omega
/-- The j-th count, and the sum of the first j. -/
def c6 (f : Fl) (j : Nat) : Int := if j = 0 then f.c0 else if j = 1 then f.c1 else if j = 2 then f.c2 else if j = 3 then f.c3 else if j = 4 then f.c4 else f.c5
def p6 (f : Fl) : Nat → Int
  | 0 => 0
  | j + 1 => p6 f j + c6 f j
theorem p6_all (f : Fl) : p6 f 6 = tot f := by simp [p6, c6, tot]
theorem p6_le {f : Fl} (h : Pos f) {j : Nat} (hj : j ≤ 6) : 0 ≤ p6 f j ∧ p6 f j ≤ tot f := by
  obtain ⟨p0, p1, p2, p3, p4, p5⟩ := h
  have : j = 0 ∨ j = 1 ∨ j = 2 ∨ j = 3 ∨ j = 4 ∨ j = 5 ∨ j = 6 := by omega
  rcases this with rfl | rfl | rfl | rfl | rfl | rfl | rfl <;> simp [p6, c6, tot] <;> omega
abbrev CV (f : Fl) : Array Value := #[.int .i64 f.c0, .int .i64 f.c1, .int .i64 f.c2, .int .i64 f.c3, .int .i64 f.c4, .int .i64 f.c5]

end Go.Proofs.Ytpdfgdjomlogbab
