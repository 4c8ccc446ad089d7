/- MergeRuns: what a frame makes of the law's sums. -/
import Derived.Test.YtnkblihdgfhcdaaMgGS
namespace Go.Proofs.Ytnkblihdgfhcdaa
open Go.RowKit Go.Joins

section
variable {q : CF} {k : Nat} {M : MG} {rs : Nat → RQ} {ra : RQ} {next passed again silent : Int}
theorem GP.one_ (h : GP q k M rs ra next passed again silent) {y : Nat} {z s : Int} {r1 : RQ} (hr1 : RR ((M.ones y).into z s) r1) (hl1 : r1.had.length ≤ (rs y).had.length + 1) (i : Nat) (hi : i < q.n) : RR (upd M.ones y ((M.ones y).into z s) i) (upd rs y r1 i) ∧ (upd rs y r1 i).had.length ≤ k + 1 + 1 := by
  by_cases e : i = y
  · subst e
    rw [upd_same, upd_same]
    exact ⟨hr1, by have := (h.one i hi).2; omega⟩
  · rw [upd_other _ _ e, upd_other _ _ e]
    exact ⟨(h.one i hi).1, by have := (h.one i hi).2; omega⟩
/-- It is not taken on its way. -/
theorem GP.frame_no (h : GP q k M rs ra next passed again silent) {y : Nat} {z s : Int} (n0 : -9223372036854775808 ≤ z) (n1 : z < 9223372036854775808) (h0 : 0 ≤ s) (h1 : s < 65536) {r1 : RQ} (hr1 : RR ((M.ones y).into z s) r1) (hl1 : r1.had.length ≤ (rs y).had.length + 1)
    (ht : ¬ taken ((M.ones y).told z s)) : GP q (k + 1) (M.into z y s) (upd rs y r1) ra next passed again silent := by
  have hg := h.good.into (way := y) n0 n1 h0 h1
  have e : M.into z y s = M.onto z y s := by unfold MG.into; exact if_neg ht
  have ho := h.one_ (y := y) hr1 hl1
  rw [e] at hg ⊢
  obtain ⟨h1, h2, h3, h4, h5, h6, h7, h8, h9, p0, p1, a0, a1, s0, s1, t0, t1, e1, e2⟩ := h
  exact ⟨hg, h2, h3, h4, ho, ⟨h6.1, by have := h6.2; omega⟩, h7, h8, h9, p0, by omega, a0, by omega, s0, by omega, t0, t1, e1, e2⟩
/-- It is taken on its way: what all of them make of it. -/
theorem GP.frame_yes (h : GP q k M rs ra next passed again silent) (hk : k < 100) {y : Nat} {z s : Int} (n0 : -9223372036854775808 ≤ z) (n1 : z < 9223372036854775808) (h0 : 0 ≤ s) (h1 : s < 65536) {r1 : RQ} (hr1 : RR ((M.ones y).into z s) r1) (hl1 : r1.had.length ≤ (rs y).had.length + 1)
    (ht : taken ((M.ones y).told z s)) {r2 : RQ} (hr2 : RR (M.all.into z s) r2) (hl2 : r2.had.length ≤ ra.had.length + 1) :
    GP q (k + 1) (M.into z y s) (upd rs y r1) r2 next (if taken (M.all.told z s) then passed + 1 else passed) (if M.all.told z s = 1 then again + 1 else again) silent := by
  have hg := h.good.into (way := y) n0 n1 h0 h1
  have e : M.into z y s = ({ M.onto z y s with all := M.all.into z s } : MG).shorted (M.all.told z s) := by unfold MG.into; exact if_pos ht
  have ho := h.one_ (y := y) hr1 hl1
  have hN1 := h.good.n1
  have hN8 := h.good.n8
  rw [e] at hg ⊢
  obtain ⟨h1, h2, h3, h4, h5, h6, h7, h8, h9, p0, p1, a0, a1, s0, s1, t0, t1, e1, e2⟩ := h
  rw [h2] at hN1 hN8
  have b1 : 0 ≤ passed * ((q.n : Int) - 1) := Int.mul_nonneg p0 (by omega)
  have b2 : passed * ((q.n : Int) - 1) ≤ 100 * 7 := Int.mul_le_mul (by omega) (by omega) (by omega) (by omega)
  have hl2' : r2.had.length ≤ k + 1 + 1 := by have := h6.2; omega
  have hmul : (passed + 1) * ((q.n : Int) - 1) = passed * ((q.n : Int) - 1) + ((q.n : Int) - 1) := by rw [Int.add_mul, Int.one_mul]
  generalize M.all.told z s = T at *
  unfold MG.shorted at hg ⊢
  by_cases hT : taken T
  · have hT1 : T ≠ 1 := by rintro rfl; exact absurd hT (by decide)
    rw [if_pos hT] at hg
    rw [if_pos hT, if_pos hT, if_neg hT1]
    refine ⟨hg, h2, h3, h4, ho, ⟨hr2, hl2'⟩, ?_, h8, h9, by omega, by omega, a0, by omega, s0, by omega, t0, t1, e1, e2⟩
    show wrap64 (M.short + ((M.n : Int) - 1)) = _
    rw [h2, hmul, h7]
    generalize passed * ((q.n : Int) - 1) = P at *
    unfold wrap64; omega
  · rw [if_neg hT] at hg
    rw [if_neg hT, if_neg hT]
    by_cases h1T : T = 1
    · rw [if_pos h1T] at hg
      rw [if_pos h1T, if_pos h1T]
      refine ⟨hg, h2, h3, h4, ho, ⟨hr2, hl2'⟩, ?_, h8, h9, by omega, by omega, by omega, by omega, s0, by omega, t0, t1, e1, e2⟩
      show wrap64 (M.short - 1) = _
      rw [h7]
      generalize passed * ((q.n : Int) - 1) = P at *
      unfold wrap64; omega
    · rw [if_neg h1T] at hg
      rw [if_neg h1T, if_neg h1T]
      exact ⟨hg, h2, h3, h4, ho, ⟨hr2, hl2'⟩, h7, h8, h9, by omega, by omega, a0, by omega, s0, by omega, t0, t1, e1, e2⟩
end
end Go.Proofs.Ytnkblihdgfhcdaa
