/- What In keeps and counts, in plain numbers. -/
import Derived.Test.YtnkblihdgfhcdaaSqHead
namespace Go.Proofs.Ytnkblihdgfhcdaa
open Go.RowKit Go.Joins

/-- The setup is the same, and what is counted. -/
structure Kept (m m' : SQ) : Prop where
  way : m'.way = m.way
  len : m'.len = m.len
  reset : m'.reset = m.reset
  c0 : m'.c0 = m.c0
  c1 : m'.c1 = m.c1
  c2 : m'.c2 = m.c2
  c3 : m'.c3 = m.c3
  when : m'.when = m.when
theorem Kept.trans {m m1 m2 : SQ} (h : Kept m m1) (k : Kept m1 m2) : Kept m m2 :=
  ⟨k.way.trans h.way, k.len.trans h.len, k.reset.trans h.reset, k.c0.trans h.c0, k.c1.trans h.c1, k.c2.trans h.c2, k.c3.trans h.c3, k.when.trans h.when⟩
theorem fresh_kept (m : SQ) (now : Int) : Kept m (m.fresh now) := by
  unfold SQ.fresh
  split <;> exact ⟨rfl, rfl, rfl, rfl, rfl, rfl, rfl, rfl⟩
theorem noted_kept (m : SQ) (seq : Int) : Kept m (m.noted seq).1 := by
  unfold SQ.noted
  repeat' split
  all_goals exact ⟨rfl, rfl, rfl, rfl, rfl, rfl, rfl, rfl⟩
theorem noted_resets (m : SQ) (seq : Int) : (m.noted seq).1.resets = m.resets := by
  unfold SQ.noted
  repeat' split
  all_goals rfl
theorem count_same (m : SQ) (x : Int) : (m.count x).way = m.way ∧ (m.count x).len = m.len ∧ (m.count x).reset = m.reset ∧ (m.count x).come = m.come ∧ (m.count x).last = m.last ∧ (m.count x).when = m.when ∧ (m.count x).resets = m.resets ∧ (m.count x).lost = m.lost := by
  unfold SQ.count
  repeat' split
  all_goals exact ⟨rfl, rfl, rfl, rfl, rfl, rfl, rfl, rfl⟩
theorem timed_same (m : SQ) (x now : Int) : (m.timed x now).way = m.way ∧ (m.timed x now).len = m.len ∧ (m.timed x now).reset = m.reset ∧ (m.timed x now).come = m.come ∧ (m.timed x now).last = m.last ∧ (m.timed x now).resets = m.resets ∧ (m.timed x now).lost = m.lost ∧ (m.timed x now).c0 = m.c0 ∧ (m.timed x now).c1 = m.c1 ∧ (m.timed x now).c2 = m.c2 ∧ (m.timed x now).c3 = m.c3 := by
  unfold SQ.timed
  split <;> exact ⟨rfl, rfl, rfl, rfl, rfl, rfl, rfl, rfl, rfl, rfl, rfl⟩
/-- So many frames were counted. -/
structure Cnt (m : SQ) (k : Nat) : Prop where
  c0 : 0 ≤ m.c0
  c1 : 0 ≤ m.c1
  c2 : 0 ≤ m.c2
  c3 : 0 ≤ m.c3
  sum : m.c0 + m.c1 + m.c2 + m.c3 = (k : Int)
theorem Cnt.kept {m m' : SQ} {k : Nat} (h : Cnt m k) (e : Kept m m') : Cnt m' k :=
  ⟨by rw [e.c0]; exact h.c0, by rw [e.c1]; exact h.c1, by rw [e.c2]; exact h.c2, by rw [e.c3]; exact h.c3, by rw [e.c0, e.c1, e.c2, e.c3]; exact h.sum⟩
theorem Cnt.count {m : SQ} {k : Nat} (h : Cnt m k) (hk : k < 1000000) (x : Int) : Cnt (m.count x) (k + 1) := by
  obtain ⟨h0, h1, h2, h3, h4⟩ := h
  unfold SQ.count wrap64
  repeat' split
  all_goals exact ⟨by dsimp only; omega, by dsimp only; omega, by dsimp only; omega, by dsimp only; omega, by dsimp only; omega⟩
theorem Cnt.timed {m : SQ} {k : Nat} (h : Cnt m k) (x now : Int) : Cnt (m.timed x now) k := by
  unfold SQ.timed
  split
  · exact ⟨h.c0, h.c1, h.c2, h.c3, h.sum⟩
  · exact h
theorem Cnt.into {m : SQ} {k : Nat} (h : Cnt m k) (hk : k < 1000000) (now seq : Int) : Cnt (m.into now seq) (k + 1) :=
  (((h.kept (fresh_kept m now)).kept (noted_kept _ seq)).count hk _).timed _ _
theorem into_way (m : SQ) (now seq : Int) : (m.into now seq).way = m.way ∧ (m.into now seq).len = m.len ∧ (m.into now seq).reset = m.reset := by
  have a := (fresh_kept m now).trans (noted_kept _ seq)
  have b := count_same ((m.fresh now).noted seq).1 (m.told now seq)
  have c := timed_same (((m.fresh now).noted seq).1.count (m.told now seq)) (m.told now seq) now
  exact ⟨(c.1.trans b.1).trans a.way, (c.2.1.trans b.2.1).trans a.len, (c.2.2.1.trans b.2.2.1).trans a.reset⟩
/-- The number is known to have come. -/
def Seen (m : SQ) (x : Int) : Prop := m.come ≠ 0 ∧ ((m.way = 1 ∧ x = m.last) ∨ (m.way ≠ 1 ∧ ahead x m.last ≤ 0 ∧ -m.len < ahead x m.last ∧ bitN m.come (-ahead x m.last).toNat = 1))
theorem Seen.again {m : SQ} {x : Int} (h : Seen m x) (hl : 1 ≤ m.len) : m.noted x = (m, 1) := by
  obtain ⟨hc, h⟩ := h
  unfold SQ.noted
  rw [if_neg hc]
  rcases h with ⟨h1, h2⟩ | ⟨h1, h2, h3, h4⟩
  · rw [if_pos h1, if_pos h2]
  · rw [if_neg h1, if_neg (by omega), if_neg (by omega), if_pos h4]
theorem ahead_self {x : Int} (h0 : 0 ≤ x) (h1 : x < 65536) : ahead x x = 0 := by unfold ahead; omega
theorem bitN_iff (c k : Nat) : bitN c k = 1 ↔ c.testBit k = true := by
  unfold bitN
  rw [Nat.and_one_is_mod, Nat.testBit_eq_decide_div_mod_eq, decide_eq_true_eq]
theorem bitN_or (c k : Nat) : bitN (c ||| 2 ^ k) k = 1 := by
  rw [bitN_iff, Nat.testBit_or, Nat.testBit_two_pow_self, Bool.or_true]
theorem noted_seen {m : SQ} (g : m.Good) {x : Int} (h0 : 0 ≤ x) (h1 : x < 65536) (h2 : (m.noted x).2 ≠ 2) : Seen (m.noted x).1 x := by
  obtain ⟨_, g1, g2, _, _⟩ := g.ok
  have hA := ahead_le x m.last
  unfold SQ.noted at h2 ⊢
  split
  · refine ⟨by show (1 : Nat) ≠ 0; omega, ?_⟩
    by_cases hw : m.way = 1
    · exact .inl ⟨hw, rfl⟩
    · refine .inr ⟨hw, ?_⟩
      show ahead x x ≤ 0 ∧ -m.len < ahead x x ∧ bitN 1 (-ahead x x).toNat = 1
      rw [ahead_self h0 h1]
      exact ⟨by omega, by omega, rfl⟩
  rename_i hc
  rw [if_neg hc] at h2
  split
  · rename_i hw
    split
    · rename_i hs
      exact ⟨hc, .inl ⟨hw, hs⟩⟩
    · exact ⟨hc, .inl ⟨hw, rfl⟩⟩
  rename_i hw
  rw [if_neg hw] at h2
  split
  · rename_i hr
    rw [if_pos hr] at h2
    exact absurd rfl h2
  rename_i hr
  split
  · refine ⟨?_, .inr ⟨hw, ?_⟩⟩
    · show moveN m.come _ ≠ 0
      unfold moveN
      intro h
      have := congrArg (fun n => n.testBit 0) h
      simp at this
    · show ahead x x ≤ 0 ∧ -m.len < ahead x x ∧ bitN (moveN m.come _) (-ahead x x).toNat = 1
      rw [ahead_self h0 h1]
      refine ⟨by omega, by omega, ?_⟩
      have := bitN_or ((m.come * 2 ^ (ahead x m.last).toNat) % 18446744073709551616) 0
      exact this
  rename_i hp
  split
  · rename_i hb
    refine ⟨hc, .inr ⟨hw, ?_, ?_, hb⟩⟩
    · show ahead x m.last ≤ 0; omega
    · show -m.len < ahead x m.last; omega
  · refine ⟨?_, .inr ⟨hw, ?_, ?_, bitN_or _ _⟩⟩
    · show m.come ||| _ ≠ 0
      intro h
      have e := bitN_or m.come (-ahead x m.last).toNat
      rw [h] at e
      simp [bitN] at e
    · show ahead x m.last ≤ 0; omega
    · show -m.len < ahead x m.last; omega
theorem Seen.count {m : SQ} {x : Int} (h : Seen m x) (y : Int) : Seen (m.count y) x := by
  obtain ⟨e1, e2, e3, e4, e5, _⟩ := count_same m y
  unfold Seen
  rw [e1, e2, e4, e5]
  exact h
theorem Seen.timed {m : SQ} {x : Int} (h : Seen m x) (y now : Int) : Seen (m.timed y now) x := by
  obtain ⟨e1, e2, e3, e4, e5, _⟩ := timed_same m y now
  unfold Seen
  rw [e1, e2, e4, e5]
  exact h
/-- At one time alone nothing is silent. -/
theorem fresh_at {m : SQ} (g : m.Good) {now : Int} (hw : m.when = now) : m.fresh now = m := by
  obtain ⟨_, _, _, r1, _⟩ := g.ok
  unfold SQ.fresh SQ.silent
  rw [if_neg]
  rintro ⟨_, _, h⟩
  omega
theorem into_when {m : SQ} {now : Int} (hw : m.when = now) (seq : Int) : (m.into now seq).when = now := by
  unfold SQ.into SQ.timed
  split
  · rfl
  · rw [(count_same _ _).2.2.2.2.2.1, (noted_kept _ _).when, (fresh_kept _ _).when, hw]
theorem into_resets {m : SQ} (g : m.Good) {now : Int} (hw : m.when = now) (seq : Int) : (m.into now seq).resets = m.resets := by
  unfold SQ.into
  rw [(timed_same _ _ _).2.2.2.2.2.1, (count_same _ _).2.2.2.2.2.2.1, noted_resets, fresh_at g hw]

/-- A setup in its box. -/
def QB (w : World) (b : Nat) (way len reset : Int) : Prop := w.heap[b]? = some (.cells #[.int .i64 way, .int .i64 len, .int .i64 reset] 23 (0, 0))
theorem QB.lt {w : World} {b : Nat} {way len reset : Int} (h : QB w b way len reset) : b < w.heap.size := lt_of_heap h
theorem QB.new (w : World) (way len reset : Int) : QB (w.alloc (.cells #[.int .i64 way, .int .i64 len, .int .i64 reset] 23)) w.heap.size way len reset := heap_alloc_one' _ _
theorem QB.below {w w' : World} {b : Nat} {way len reset : Int} (h : QB w b way len reset) (hb : Below w.heap.size w w') : QB w' b way len reset := (hb.block b h.lt).trans h
theorem QB.but {w w' : World} {b c : Nat} {way len reset : Int} (h : QB w b way len reset) (hb : ButB c w w') (hn : b ≠ c) : QB w' b way len reset := (hb.block b h.lt hn).trans h
theorem QB.cells {w : World} {b : Nat} {way len reset : Int} (h : QB w b way len reset) : w.cell? ⟨b, 0, none⟩ = some (.int .i64 way) ∧ w.cell? ⟨b, 1, none⟩ = some (.int .i64 len) ∧ w.cell? ⟨b, 2, none⟩ = some (.int .i64 reset) :=
  ⟨cell_of_row _ _ _ _ _ _ h, cell_of_row _ _ _ _ _ _ h, cell_of_row _ _ _ _ _ _ h⟩

end Go.Proofs.Ytnkblihdgfhcdaa
