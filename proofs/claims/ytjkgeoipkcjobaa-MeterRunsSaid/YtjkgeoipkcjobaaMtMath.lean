/- Plain mathematics of a meter: two pails in parts of bits. -/
import Derived.Test.YtjkgeoipkcjobaaMtWide
namespace Go.Proofs.Ytjkgeoipkcjobaa

/-- A meter in plain numbers. -/
structure MS where
  r : Int
  bu : Int
  mo : Int
  be : Int
  cp : Bool
  aw : Bool
  sh : Bool
  last : Int
  fi : Int
  se : Int
  off : Bool

/-- What a pail has behind it. -/
def fillP (p more most : Int) : Int := if p + more < most * 1000000000 then p + more else most * 1000000000
/-- What it can't hold. -/
def fillL (p more most : Int) : Int := if p + more < most * 1000000000 then 0 else p + more - most * 1000000000
def MS.conf (m : MS) : Prop := (0 ≤ m.r ∧ m.r ≤ 8589934592) ∧ (0 ≤ m.bu ∧ m.bu ≤ 8589934592) ∧ (0 ≤ m.mo ∧ m.mo ≤ 8589934592) ∧ (0 ≤ m.be ∧ m.be ≤ 8589934592)
structure MS.Good (m : MS) : Prop where
  r0 : 0 ≤ m.r
  r1 : m.r ≤ 8589934592
  bu0 : 0 ≤ m.bu
  bu1 : m.bu ≤ 8589934592
  mo0 : 0 ≤ m.mo
  mo1 : m.mo ≤ 8589934592
  be0 : 0 ≤ m.be
  be1 : m.be ≤ 8589934592
  l0 : 0 ≤ m.last
  l1 : m.last ≤ 1099511627776
  f0 : 0 ≤ m.fi
  f1 : m.fi ≤ m.bu * 1000000000
  s0 : 0 ≤ m.se
  s1 : m.se ≤ m.be * 1000000000
/-- The second pail behind some time. -/
def secP (m : MS) (now : Int) : Int :=
  if m.cp = true then fillP (fillP m.se (m.mo * (now - m.last)) m.be) (fillL m.fi (m.r * (now - m.last)) m.bu) m.be else fillP m.se (m.mo * (now - m.last)) m.be
def MS.wait (m : MS) (now : Int) : MS := { m with last := now, fi := fillP m.fi (m.r * (now - m.last)) m.bu, se := secP m now }
/-- What a frame of so many parts is told. -/
def MS.col (m : MS) (need : Int) (y : Bool) : Int :=
  if m.off = true then 2 else if ¬ (m.aw && y) = true ∧ need ≤ m.fi then 0 else if need ≤ m.se then 1 else 2
/-- The meter behind it. -/
def MS.took (m : MS) (need : Int) (y : Bool) : MS :=
  if m.off = true then m else if ¬ (m.aw && y) = true ∧ need ≤ m.fi then { m with fi := m.fi - need } else if need ≤ m.se then { m with se := m.se - need } else { m with off := m.sh }
def MS.into (m : MS) (now size : Int) (y : Bool) : MS := (m.wait now).took (size * 8 * 1000000000) y
def MS.told (m : MS) (now size : Int) (y : Bool) : Int := (m.wait now).col (size * 8 * 1000000000) y

theorem fillP_bd {p more most : Int} (h0 : 0 ≤ p) (hm : 0 ≤ more) (h1 : 0 ≤ most) : 0 ≤ fillP p more most ∧ fillP p more most ≤ most * 1000000000 ∧ fillP p more most ≤ p + more := by
  unfold fillP; split <;> omega
theorem fillL_bd {p more most : Int} (h1 : p ≤ most * 1000000000) (hm : 0 ≤ more) : 0 ≤ fillL p more most ∧ fillL p more most ≤ more := by
  unfold fillL; split <;> omega
theorem mul_bd {a b c d : Int} (h0 : 0 ≤ a) (h1 : a ≤ c) (h2 : 0 ≤ b) (h3 : b ≤ d) : 0 ≤ a * b ∧ a * b ≤ c * d :=
  ⟨Int.mul_nonneg h0 h2, Int.mul_le_mul h1 h3 h2 (by omega)⟩
theorem MS.Good.wait {m : MS} (g : m.Good) {now : Int} (h0 : m.last ≤ now) (h1 : now ≤ 1099511627776) : (m.wait now).Good := by
  have g1 := g.l0
  have e1 := (mul_bd (d := 1099511627776) g.r0 g.r1 (show 0 ≤ now - m.last by omega) (by omega)).1
  have e2 := (mul_bd (d := 1099511627776) g.mo0 g.mo1 (show 0 ≤ now - m.last by omega) (by omega)).1
  have p1 := fillP_bd g.f0 e1 g.bu0
  have p2 := fillP_bd g.s0 e2 g.be0
  have p3 := fillL_bd g.f1 e1
  have p4 := fillP_bd p2.1 p3.1 g.be0
  refine ⟨g.r0, g.r1, g.bu0, g.bu1, g.mo0, g.mo1, g.be0, g.be1, show 0 ≤ now by omega, h1, p1.1, p1.2.1, ?_, ?_⟩
  · show 0 ≤ secP m now
    unfold secP; split
    · exact p4.1
    · exact p2.1
  · show secP m now ≤ _
    unfold secP; split
    · exact p4.2.1
    · exact p2.2.1
theorem MS.Good.took {m : MS} (g : m.Good) {need : Int} (h0 : 0 ≤ need) (y : Bool) : (m.took need y).Good := by
  obtain ⟨a1, a2, a3, a4, a5, a6, a7, a8, a9, a10, a11, a12, a13, a14⟩ := g
  unfold MS.took
  split
  · constructor <;> assumption
  split
  · rename_i h; exact ⟨a1, a2, a3, a4, a5, a6, a7, a8, a9, a10, by show 0 ≤ m.fi - need; omega, by show m.fi - need ≤ m.bu * 1000000000; omega, a13, a14⟩
  split
  · exact ⟨a1, a2, a3, a4, a5, a6, a7, a8, a9, a10, a11, a12, by show 0 ≤ m.se - need; omega, by show m.se - need ≤ m.be * 1000000000; omega⟩
  · constructor <;> assumption
theorem MS.Good.into {m : MS} (g : m.Good) {now size : Int} (h0 : m.last ≤ now) (h1 : now ≤ 1099511627776) (h2 : 0 ≤ size) (y : Bool) : (m.into now size y).Good :=
  (g.wait h0 h1).took (by omega) y
/-- What stays. -/
theorem MS.took_same (m : MS) (need : Int) (y : Bool) : (m.took need y).r = m.r ∧ (m.took need y).bu = m.bu ∧ (m.took need y).mo = m.mo ∧ (m.took need y).be = m.be ∧ (m.took need y).cp = m.cp ∧ (m.took need y).aw = m.aw ∧ (m.took need y).sh = m.sh ∧ (m.took need y).last = m.last := by
  unfold MS.took
  split
  · exact ⟨rfl, rfl, rfl, rfl, rfl, rfl, rfl, rfl⟩
  split
  · exact ⟨rfl, rfl, rfl, rfl, rfl, rfl, rfl, rfl⟩
  split <;> exact ⟨rfl, rfl, rfl, rfl, rfl, rfl, rfl, rfl⟩
theorem MS.into_same (m : MS) (now size : Int) (y : Bool) : (m.into now size y).r = m.r ∧ (m.into now size y).bu = m.bu ∧ (m.into now size y).mo = m.mo ∧ (m.into now size y).be = m.be ∧ (m.into now size y).cp = m.cp ∧ (m.into now size y).aw = m.aw ∧ (m.into now size y).sh = m.sh ∧ (m.into now size y).last = now :=
  (m.wait now).took_same _ y
theorem MS.told_cases (m : MS) (now size : Int) (y : Bool) : m.told now size y = 0 ∨ m.told now size y = 1 ∨ m.told now size y = 2 := by
  unfold MS.told MS.col
  split
  · exact .inr (.inr rfl)
  split
  · exact .inl rfl
  split
  · exact .inr (.inl rfl)
  · exact .inr (.inr rfl)
/-- Green: it was taken from the first pail; else the first one has what time made of it. -/
theorem MS.into_fi {m : MS} (now size : Int) (y : Bool) : (m.told now size y = 0 → (m.into now size y).fi = (m.wait now).fi - size * 8 * 1000000000) ∧ (m.told now size y ≠ 0 → (m.into now size y).fi = (m.wait now).fi) := by
  unfold MS.told MS.into MS.col MS.took
  split
  · exact ⟨fun h => by omega, fun _ => rfl⟩
  split
  · exact ⟨fun _ => rfl, fun h => absurd rfl h⟩
  split
  · exact ⟨fun h => by omega, fun _ => rfl⟩
  · exact ⟨fun h => by omega, fun _ => rfl⟩
/-- Whether it is shut, where that is so set. -/
theorem MS.into_off {m : MS} (hs : m.sh = true) (now size : Int) (y : Bool) : (m.off = true → m.told now size y = 2) ∧ (m.into now size y).off = (m.off || decide (m.told now size y = 2)) := by
  unfold MS.told MS.into
  have e : (m.wait now).off = m.off := rfl
  have e2 : (m.wait now).sh = true := hs
  generalize m.wait now = M at *
  generalize size * 8 * 1000000000 = need
  rw [← e]
  unfold MS.col MS.took
  cases h : M.off
  · simp only [Bool.false_eq_true, if_false, false_implies, true_and, Bool.false_or]
    by_cases h1 : ¬ (M.aw && y) = true ∧ need ≤ M.fi
    · rw [if_pos h1, if_pos h1]; simp [h]
    rw [if_neg h1, if_neg h1]
    by_cases h2 : need ≤ M.se
    · rw [if_pos h2, if_pos h2]; simp [h]
    rw [if_neg h2, if_neg h2]; simp [e2]
  · simp [h]

end Go.Proofs.Ytjkgeoipkcjobaa
