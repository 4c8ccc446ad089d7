/- Two Seqrs of which the one's numbers are turned. -/
import Derived.Test.YtnkblihdgfhcdaaSqPlain
namespace Go.Proofs.Ytnkblihdgfhcdaa
open Go.RowKit Go.Joins

structure Rot (t : Int) (a b : SQ) : Prop where
  way : b.way = a.way
  len : b.len = a.len
  reset : b.reset = a.reset
  come : b.come = a.come
  last : a.come ≠ 0 → b.last = (a.last + t) % 65536
structure Cq (a b : SQ) : Prop where
  c0 : b.c0 = a.c0
  c1 : b.c1 = a.c1
  c2 : b.c2 = a.c2
  c3 : b.c3 = a.c3
  resets : b.resets = a.resets
  lost : b.lost = a.lost
theorem ahead_rot (x l t : Int) : ahead ((x + t) % 65536) ((l + t) % 65536) = ahead x l := by unfold ahead; omega
theorem rot_inj {x l : Int} (t : Int) (h0 : 0 ≤ x) (h1 : x < 65536) (g0 : 0 ≤ l) (g1 : l < 65536) : (x + t) % 65536 = (l + t) % 65536 ↔ x = l := by omega
section
variable {t : Int} {a b : SQ}
theorem Rot.noted (h : Rot t a b) (g : a.Good) {x : Int} (h0 : 0 ≤ x) (h1 : x < 65536) : (b.noted ((x + t) % 65536)).2 = (a.noted x).2 ∧ Rot t (a.noted x).1 (b.noted ((x + t) % 65536)).1 ∧ (Cq a b → Cq (a.noted x).1 (b.noted ((x + t) % 65536)).1) := by
  obtain ⟨e1, e2, e3, e4, e5⟩ := h
  unfold SQ.noted
  by_cases hc : a.come = 0
  · rw [if_pos hc, if_pos (e4.trans hc)]
    exact ⟨rfl, ⟨e1, e2, e3, rfl, fun _ => rfl⟩, fun q => ⟨q.c0, q.c1, q.c2, q.c3, q.resets, q.lost⟩⟩
  rw [if_neg hc, if_neg (by rw [e4]; exact hc)]
  have e6 := e5 hc
  rw [e1, e2, e6, ahead_rot]
  by_cases hw : a.way = 1
  · rw [if_pos hw, if_pos hw]
    by_cases hx : x = a.last
    · rw [if_pos hx, if_pos ((rot_inj t h0 h1 g.l0 g.l1).2 hx)]
      exact ⟨rfl, ⟨e1, e2, e3, e4, e5⟩, fun q => q⟩
    · rw [if_neg hx, if_neg (fun h => hx ((rot_inj t h0 h1 g.l0 g.l1).1 h))]
      exact ⟨rfl, ⟨by first | rfl | exact e1, by first | rfl | exact e2, e3, by first | rfl | exact e4, fun _ => rfl⟩, fun q => ⟨q.c0, q.c1, q.c2, q.c3, q.resets, q.lost⟩⟩
  rw [if_neg hw, if_neg hw]
  by_cases hr : a.len ≤ ahead x a.last ∨ ahead x a.last ≤ -a.len
  · rw [if_pos hr, if_pos hr]
    exact ⟨rfl, ⟨e1, e2, e3, e4, e5⟩, fun q => q⟩
  rw [if_neg hr, if_neg hr]
  by_cases hp : 0 < ahead x a.last
  · rw [if_pos hp, if_pos hp]
    refine ⟨rfl, ⟨by first | rfl | exact e1, by first | rfl | exact e2, e3, ?_, fun _ => rfl⟩, fun q => ⟨q.c0, q.c1, q.c2, q.c3, q.resets, ?_⟩⟩
    · show moveN b.come _ = moveN a.come _
      rw [e4]
    · show wrap64 (b.lost + (_ - (ones (outN b.come b.len.toNat _) : Int))) = wrap64 (a.lost + (_ - (ones (outN a.come a.len.toNat _) : Int)))
      rw [q.lost, e4, e2]
  rw [if_neg hp, if_neg hp, e4]
  by_cases hb : bitN a.come (-ahead x a.last).toNat = 1
  · rw [if_pos hb, if_pos hb]
    exact ⟨rfl, ⟨e1, e2, e3, e4, e5⟩, fun q => q⟩
  · rw [if_neg hb, if_neg hb]
    exact ⟨rfl, ⟨by first | rfl | exact e1, by first | rfl | exact e2, e3, by first | rfl | exact e4, fun _ => by first | rfl | exact e6⟩, fun q => ⟨q.c0, q.c1, q.c2, q.c3, q.resets, q.lost⟩⟩
theorem Rot.fresh (h : Rot t a b) (hw : b.when = a.when) (now : Int) : Rot t (a.fresh now) (b.fresh now) ∧ (Cq a b → Cq (a.fresh now) (b.fresh now)) := by
  unfold SQ.fresh
  have e : (b.come ≠ 0 ∧ b.silent now) ↔ (a.come ≠ 0 ∧ a.silent now) := by unfold SQ.silent; rw [h.come, hw, h.reset]
  by_cases hx : a.come ≠ 0 ∧ a.silent now
  rw [if_pos hx, if_pos (e.2 hx)]
  rotate_left
  rw [if_neg hx, if_neg (fun h => hx (e.1 h))]
  rotate_left
  · exact ⟨⟨h.way, h.len, h.reset, rfl, fun h => absurd rfl h⟩, fun q => ⟨q.c0, q.c1, q.c2, q.c3, by show wrap64 (b.resets + 1) = wrap64 (a.resets + 1); rw [q.resets], q.lost⟩⟩
  · exact ⟨h, fun q => q⟩
theorem Rot.count (h : Rot t a b) (x : Int) : Rot t (a.count x) (b.count x) := by
  obtain ⟨a1, a2, a3, a4, a5, _⟩ := count_same a x
  obtain ⟨b1, b2, b3, b4, b5, _⟩ := count_same b x
  exact ⟨by rw [a1, b1, h.way], by rw [a2, b2, h.len], by rw [a3, b3, h.reset], by rw [a4, b4, h.come], by rw [a4, a5, b5]; exact h.last⟩
theorem Cq.count (h : Cq a b) (x : Int) : Cq (a.count x) (b.count x) := by
  obtain ⟨q0, q1, q2, q3, q4, q5⟩ := h
  unfold SQ.count
  repeat' split
  all_goals exact ⟨by first | exact q0 | (dsimp only; rw [q0]), by first | exact q1 | (dsimp only; rw [q1]), by first | exact q2 | (dsimp only; rw [q2]), by first | exact q3 | (dsimp only; rw [q3]), q4, q5⟩
theorem Rot.timed (h : Rot t a b) (x now : Int) : Rot t (a.timed x now) (b.timed x now) := by
  unfold SQ.timed
  split
  · exact ⟨h.way, h.len, h.reset, h.come, h.last⟩
  · exact h
theorem Cq.timed (h : Cq a b) (x now : Int) : Cq (a.timed x now) (b.timed x now) := by
  unfold SQ.timed
  split
  · exact ⟨h.c0, h.c1, h.c2, h.c3, h.resets, h.lost⟩
  · exact h
theorem count_when (m : SQ) (x : Int) : (m.count x).when = m.when := (count_same m x).2.2.2.2.2.1
/-- What In tells of the turned number, and what is behind it. -/
theorem Rot.into (h : Rot t a b) (hw : b.when = a.when) (g : a.Good) (now : Int) {x : Int} (h0 : 0 ≤ x) (h1 : x < 65536) :
    b.told now ((x + t) % 65536) = a.told now x ∧ Rot t (a.into now x) (b.into now ((x + t) % 65536)) ∧ (b.into now ((x + t) % 65536)).when = (a.into now x).when ∧ (Cq a b → Cq (a.into now x) (b.into now ((x + t) % 65536))) := by
  obtain ⟨f1, f2⟩ := h.fresh hw now
  obtain ⟨n1, n2, n3⟩ := f1.noted (g.fresh now) h0 h1
  have e : b.told now ((x + t) % 65536) = a.told now x := n1
  refine ⟨e, ?_, ?_, ?_⟩
  · unfold SQ.into
    rw [e]
    exact (n2.count _).timed _ _
  · unfold SQ.into
    rw [e]
    unfold SQ.timed
    split
    · rfl
    · rw [count_when, count_when, (noted_kept _ _).when, (noted_kept _ _).when, (fresh_kept _ _).when, (fresh_kept _ _).when, hw]
  · intro q
    unfold SQ.into
    rw [e]
    exact ((n3 (f2 q)).count _).timed _ _
end

end Go.Proofs.Ytnkblihdgfhcdaa
