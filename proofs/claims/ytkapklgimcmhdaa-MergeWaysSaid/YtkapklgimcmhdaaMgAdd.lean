/- What passes its way comes to all of them together: the counts, in plain numbers. -/
import Derived.Test.YtkapklgimcmhdaaMgHead
namespace Go.Proofs.Ytkapklgimcmhdaa
open Go.RowKit Go.Joins

theorem tk_into {m : SQ} {k : Nat} (h : Cnt m k) (hk : k < 1000000) (now seq : Int) : (m.into now seq).c0 + (m.into now seq).c3 = m.c0 + m.c3 + (if taken (m.told now seq) then 1 else 0) := by
  have hx := noted_two (m.fresh now) seq
  change m.told now seq = 0 ∨ m.told now seq = 1 ∨ m.told now seq = 2 ∨ m.told now seq = 3 at hx
  have e := (fresh_kept m now).trans (noted_kept (m.fresh now) seq)
  obtain ⟨h0, h1, h2, h3, h4⟩ := h
  unfold SQ.into
  generalize m.told now seq = x at *
  rw [(timed_same _ x now).2.2.2.2.2.2.2.1, (timed_same _ x now).2.2.2.2.2.2.2.2.2.2]
  have a0 := e.c0
  have a3 := e.c3
  rcases hx with rfl | rfl | rfl | rfl
  · rw [if_pos (by decide)]
    show wrap64 (((m.fresh now).noted seq).1.c0 + 1) + ((m.fresh now).noted seq).1.c3 = _
    rw [a0, a3]; unfold wrap64; omega
  · rw [if_neg (by decide)]
    show ((m.fresh now).noted seq).1.c0 + ((m.fresh now).noted seq).1.c3 = _
    rw [a0, a3]; omega
  · rw [if_neg (by decide)]
    show ((m.fresh now).noted seq).1.c0 + ((m.fresh now).noted seq).1.c3 = _
    rw [a0, a3]; omega
  · rw [if_pos (by decide)]
    show ((m.fresh now).noted seq).1.c0 + wrap64 (((m.fresh now).noted seq).1.c3 + 1) = _
    rw [a0, a3]; unfold wrap64; omega
def SumT (f : Nat → SQ) : Nat → Int
  | 0 => 0
  | j + 1 => SumT f j + ((f j).c0 + (f j).c3)
theorem sumT_off {f : Nat → SQ} {i : Nat} {x : SQ} : ∀ {j : Nat}, j ≤ i → SumT (upd f i x) j = SumT f j
  | 0, _ => rfl
  | j + 1, h => by
    show SumT (upd f i x) j + ((upd f i x j).c0 + (upd f i x j).c3) = _
    rw [sumT_off (by omega), upd_other _ _ (by omega)]
    rfl
theorem sumT_upd {f : Nat → SQ} {i : Nat} {x : SQ} {d : Int} (hd : x.c0 + x.c3 = (f i).c0 + (f i).c3 + d) : ∀ {j : Nat}, i < j → SumT (upd f i x) j = SumT f j + d
  | 0, h => absurd h (by omega)
  | j + 1, h => by
    show SumT (upd f i x) j + ((upd f i x j).c0 + (upd f i x j).c3) = SumT f j + ((f j).c0 + (f j).c3) + d
    rcases Nat.lt_or_ge i j with g | g
    · rw [sumT_upd hd g, upd_other _ _ (by omega)]; omega
    · obtain rfl : i = j := by omega
      rw [sumT_off (Nat.le_refl _), upd_same]; omega
structure AddI (m : MG) (k : Nat) (t : Int) : Prop where
  g : m.Good
  ones : ∀ i, i < m.n → ∃ q, q ≤ k ∧ Cnt (m.ones i) q
  all : ∃ p, p ≤ k ∧ Cnt m.all p ∧ SumT m.ones m.n = (p : Int)
  tk : m.all.c0 + m.all.c3 = t
theorem AddI.later {m : MG} {k : Nat} {t : Int} (h : AddI m k t) : AddI m (k + 1) t := by
  obtain ⟨g, h1, ⟨p, h2, h3⟩, h4⟩ := h
  exact ⟨g, fun i hi => (h1 i hi).elim fun q hq => ⟨q, by omega, hq.2⟩, ⟨p, by omega, h3⟩, h4⟩
theorem AddI.bound {m : MG} {k : Nat} {t : Int} (h : AddI m k t) : 0 ≤ t ∧ t ≤ (k : Int) := by
  obtain ⟨g, h1, ⟨p, h2, h3, _⟩, h4⟩ := h
  have := h3.c0
  have := h3.c1
  have := h3.c2
  have := h3.c3
  have := h3.sum
  omega
theorem shorted_same (m : MG) (y : Int) : (m.shorted y).n = m.n ∧ (m.shorted y).ones = m.ones ∧ (m.shorted y).all = m.all := by
  unfold MG.shorted
  repeat' split
  all_goals exact ⟨rfl, rfl, rfl⟩
theorem AddI.into {m : MG} {k : Nat} {t : Int} (h : AddI m k t) (hk : k < 100000) {now seq : Int} {way : Nat} (hw : way < m.n) (n0 : -9223372036854775808 ≤ now) (n1 : now < 9223372036854775808) (h0 : 0 ≤ seq) (h1 : seq < 65536) : AddI (m.into now way seq) (k + 1) (t + if m.told now way seq then 1 else 0) := by
  have g2 := h.g.into (way := way) n0 n1 h0 h1
  obtain ⟨g, a1, ⟨p, a2, a3, a4⟩, a5⟩ := h
  obtain ⟨q, hq, hc⟩ := a1 way hw
  have hd := tk_into hc (by omega) now seq
  have hones : ∀ i, i < m.n → ∃ q, q ≤ k + 1 ∧ Cnt (upd m.ones way ((m.ones way).into now seq) i) q := fun i hi => by
    by_cases e : i = way
    · subst e; rw [upd_same]; exact ⟨q + 1, by omega, hc.into (by omega) now seq⟩
    · rw [upd_other _ _ e]; exact (a1 i hi).elim fun q hq => ⟨q, by omega, hq.2⟩
  have hsum := sumT_upd (f := m.ones) (i := way) (x := (m.ones way).into now seq) hd hw
  by_cases hp : m.passes now way seq
  · have hp' : taken ((m.ones way).told now seq) := hp
    rw [if_pos hp'] at hsum
    have e : m.into now way seq = ({ m.onto now way seq with all := m.all.into now seq } : MG).shorted (m.all.told now seq) := by unfold MG.into; rw [if_pos hp]
    have ht := tk_into a3 (by omega) now seq
    have htt : (if m.told now way seq then (1 : Int) else 0) = if taken (m.all.told now seq) then 1 else 0 := by
      by_cases c : taken (m.all.told now seq)
      · rw [if_pos c, if_pos ⟨hp, c⟩]
      · rw [if_neg c, if_neg (fun h => c h.2)]
    have en : (m.into now way seq).n = m.n := into_n m now way seq
    have eo : (m.into now way seq).ones = upd m.ones way ((m.ones way).into now seq) := by rw [e, (shorted_same _ _).2.1]; rfl
    have ea : (m.into now way seq).all = m.all.into now seq := by rw [e, (shorted_same _ _).2.2]
    refine ⟨g2, ?_, ⟨p + 1, by omega, ?_, ?_⟩, ?_⟩
    · rw [en, eo]; exact hones
    · rw [ea]; exact a3.into (by omega) now seq
    · rw [en, eo, hsum, a4]; omega
    · rw [ea, ht, htt, a5]
  · have hp' : ¬ taken ((m.ones way).told now seq) := hp
    rw [if_neg hp'] at hsum
    have e : m.into now way seq = m.onto now way seq := by unfold MG.into; rw [if_neg hp]
    rw [if_neg (fun h => hp h.1), e]
    rw [e] at g2
    exact ⟨g2, hones, ⟨p, by omega, a3, by rw [show (m.onto now way seq).ones = upd m.ones way ((m.ones way).into now seq) from rfl, show (m.onto now way seq).n = m.n from rfl, hsum, a4]; omega⟩, by rw [show (m.onto now way seq).all = m.all from rfl, a5]; omega⟩
theorem AddI.start {n : Nat} {every limit now : Int} {qo qa : SQ} (h1 : 1 ≤ n) (h8 : n ≤ 8) (ho : qo.Good) (ha : qa.Good) (co : Cnt qo 0) (ca : Cnt qa 0) : AddI (M0 n every limit now qo qa) 0 0 := by
  have z : ∀ j, SumT (fun _ => qo) j = 0 := fun j => by
    induction j with
    | zero => rfl
    | succ j ih =>
      show SumT (fun _ => qo) j + (qo.c0 + qo.c3) = 0
      have := co.c0
      have := co.c1
      have := co.c2
      have := co.c3
      have := co.sum
      omega
  refine ⟨M0_good h1 h8 ho ha, fun i _ => ⟨0, Nat.le_refl _, co⟩, ⟨0, Nat.le_refl _, ca, z n⟩, ?_⟩
  show qa.c0 + qa.c3 = 0
  have := ca.c0
  have := ca.c1
  have := ca.c2
  have := ca.c3
  have := ca.sum
  omega
theorem Q0_cnt (way len reset now : Int) : Cnt (Q0 way len reset now) 0 := ⟨Int.le_refl _, Int.le_refl _, Int.le_refl _, Int.le_refl _, rfl⟩

end Go.Proofs.Ytkapklgimcmhdaa
