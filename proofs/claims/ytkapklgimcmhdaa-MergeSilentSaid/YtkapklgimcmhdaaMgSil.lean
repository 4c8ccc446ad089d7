/- Numbers that rise by one, in plain numbers. -/
import Derived.Test.YtkapklgimcmhdaaMgHead
namespace Go.Proofs.Ytkapklgimcmhdaa
open Go.RowKit Go.Joins

theorem when_taken' {m : SQ} {now x : Int} (h : m.told now x = 0) : (m.into now x).when = now := by
  unfold SQ.into SQ.timed
  rw [if_pos (.inl h)]
structure Nx (s : SQ) (i : Nat) (t : Int) : Prop where
  g : s.Good
  way : s.way = 0
  len : s.len = 16
  reset : s.reset = 1099511627776
  w0 : 0 ≤ s.when
  w1 : s.when ≤ t
  st : (i = 0 ∧ s.come = 0) ∨ (s.come ≠ 0 ∧ s.last = (i : Int) - 1)
theorem Nx.fresh {s : SQ} {i : Nat} {t now : Int} (h : Nx s i t) (hn : now ≤ 1000) : s.fresh now = s := by
  unfold SQ.fresh SQ.silent
  rw [if_neg]
  rintro ⟨_, _, h3⟩
  have := h.reset
  have := h.w0
  omega
theorem Nx.next {s : SQ} {i : Nat} {t now : Int} (h : Nx s i t) (ht : t ≤ now) (hn : now ≤ 1000) (hi : i < 1000) : s.told now (i : Int) = 0 ∧ Nx (s.into now (i : Int)) (i + 1) now ∧ Seen (s.into now (i : Int)) (i : Int) := by
  have hf := h.fresh hn
  have h0 := h.w0
  have h1 := h.w1
  have hT : s.told now (i : Int) = (s.noted (i : Int)).2 := by unfold SQ.told; rw [hf]
  have key : (s.noted (i : Int)).2 = 0 ∧ (s.noted (i : Int)).1.last = (i : Int) := by
    unfold SQ.noted
    rcases h.st with ⟨hi0, hc⟩ | ⟨hc, hl⟩
    · rw [if_pos hc]; exact ⟨rfl, rfl⟩
    · have ha : ahead (i : Int) s.last = 1 := by unfold ahead; omega
      have hw := h.way
      have hlen := h.len
      rw [if_neg hc, if_neg (by omega), ha, if_neg (by omega), if_pos (by omega)]
      exact ⟨rfl, rfl⟩
  have hS : Seen (s.into now (i : Int)) (i : Int) := by
    unfold SQ.into
    rw [hf]
    exact ((noted_seen h.g (by omega) (by omega) (by rw [key.1]; decide)).count _).timed _ _
  have hw := into_way s now (i : Int)
  have hwn : (s.into now (i : Int)).when = now := when_taken' (hT.trans key.1)
  refine ⟨hT.trans key.1, ⟨h.g.into (by omega) (by omega) (by omega) (by omega), hw.1.trans h.way, hw.2.1.trans h.len, hw.2.2.trans h.reset, by omega, by omega, .inr ⟨hS.1, ?_⟩⟩, hS⟩
  unfold SQ.into
  rw [hf, (timed_same _ _ _).2.2.2.2.1, (count_same _ _).2.2.2.2.1, key.2]
  omega
theorem Nx.again {s : SQ} {i : Nat} {t now x : Int} (h : Nx s i t) (hx : Seen s x) (ht : t ≤ now) (hn : now ≤ 1000) (h0 : 0 ≤ x) (h1 : x < 65536) : s.told now x = 1 ∧ Nx (s.into now x) i t := by
  have hf := h.fresh hn
  have hlen := h.len
  have hnd := hx.again (by omega)
  have hT : s.told now x = 1 := by unfold SQ.told; rw [hf, hnd]
  have hI : s.into now x = { s with c1 := wrap64 (s.c1 + 1) } := by
    unfold SQ.into
    rw [hT, hf, hnd]
    simp [SQ.count, SQ.timed]
  have hw := into_way s now x
  have a := h.w0
  have b := h.w1
  refine ⟨hT, ?_⟩
  rw [hI]
  exact ⟨⟨h.g.ok, h.g.come, h.g.l0, h.g.l1, h.g.w⟩, h.way, h.len, h.reset, h.w0, h.w1, h.st⟩
/-- Both ways and all of them have come so far. -/
structure Ph (m : MG) (limit : Int) (a b c : Nat) (t sh : Int) : Prop where
  g : m.Good
  n : m.n = 2
  every : m.every = 10
  limit : m.limit = limit
  o0 : Nx (m.ones 0) a t
  o1 : Nx (m.ones 1) b t
  al : Nx m.all c t
  sh : m.short = sh
section
variable {m : MG} {limit t sh now : Int} {a b c : Nat}
theorem Nx.late {s : SQ} {i : Nat} (h : Nx s i t) (ht : t ≤ now) : Nx s i now := ⟨h.g, h.way, h.len, h.reset, h.w0, Int.le_trans h.w1 ht, h.st⟩
/-- The first way's frame: taken. -/
theorem Ph.first (h : Ph m limit a a a t sh) (ht : t ≤ now) (h0 : 0 ≤ now) (hn : now ≤ 1000) (hi : a < 1000) (hs : 0 ≤ sh ∧ sh ≤ 1000) :
    m.told now 0 (a : Int) ∧ Ph (m.into now 0 (a : Int)) limit (a + 1) a (a + 1) now (sh + 1) ∧ Seen (m.into now 0 (a : Int)).all (a : Int) ∧ (m.into now 0 (a : Int)).last = m.last ∧ (m.into now 0 (a : Int)).silent = m.silent := by
  obtain ⟨p1, p2, p3⟩ := h.o0.next ht hn hi
  obtain ⟨q1, q2, q3⟩ := h.al.next ht hn hi
  have hp : m.passes now 0 (a : Int) := .inl p1
  have ht2 : taken (m.all.told now (a : Int)) := .inl q1
  have e : m.into now 0 (a : Int) = { ({ m.onto now 0 (a : Int) with all := m.all.into now (a : Int) } : MG) with short := wrap64 (m.short + ((m.n : Int) - 1)) } := by
    unfold MG.into MG.shorted
    rw [if_pos hp, if_pos ht2]
    rfl
  have g := h.g.into (now := now) (way := 0) (seq := (a : Int)) (by omega) (by omega) (by omega) (by omega)
  refine ⟨⟨hp, ht2⟩, ?_, ?_, ?_, ?_⟩
  · rw [e] at g ⊢
    have hsh := h.sh
    have hn2 := h.n
    exact ⟨g, h.n, h.every, h.limit, p2, h.o1.late ht, q2, by show wrap64 (m.short + ((m.n : Int) - 1)) = sh + 1; rw [hsh, hn2]; unfold wrap64; omega⟩
  all_goals rw [e]
  · exact q3
  · rfl
  · rfl
/-- The second way's frame: it came already. -/
theorem Ph.second (h : Ph m limit (a + 1) a (a + 1) t sh) (hS : Seen m.all (a : Int)) (ht : t ≤ now) (h0 : 0 ≤ now) (hn : now ≤ 1000) (hi : a < 1000) (hs : 0 ≤ sh ∧ sh ≤ 1000) :
    ¬ m.told now 1 (a : Int) ∧ Ph (m.into now 1 (a : Int)) limit (a + 1) (a + 1) (a + 1) now (sh - 1) ∧ (m.into now 1 (a : Int)).last = m.last ∧ (m.into now 1 (a : Int)).silent = m.silent := by
  obtain ⟨p1, p2, p3⟩ := h.o1.next ht hn hi
  obtain ⟨q1, q2⟩ := h.al.again hS ht hn (by omega) (by omega)
  have hp : m.passes now 1 (a : Int) := .inl p1
  have ht2 : ¬ taken (m.all.told now (a : Int)) := by rw [q1]; decide
  have e : m.into now 1 (a : Int) = { ({ m.onto now 1 (a : Int) with all := m.all.into now (a : Int) } : MG) with short := wrap64 (m.short - 1) } := by
    unfold MG.into MG.shorted
    rw [if_pos hp, if_neg ht2, if_pos q1]
    rfl
  have g := h.g.into (now := now) (way := 1) (seq := (a : Int)) (by omega) (by omega) (by omega) (by omega)
  refine ⟨fun h => ht2 h.2, ?_, ?_, ?_⟩
  · rw [e] at g ⊢
    have hsh := h.sh
    exact ⟨g, h.n, h.every, h.limit, h.o0.late ht, p2, q2.late ht, by show wrap64 (m.short - 1) = sh - 1; rw [hsh]; unfold wrap64; omega⟩
  all_goals rw [e]
  · rfl
  · rfl
/-- The second way's frame, while the first one is silent: taken. -/
theorem Ph.alone (h : Ph m limit c b b t sh) (ht : t ≤ now) (h0 : 0 ≤ now) (hn : now ≤ 1000) (hi : b < 1000) (hs : 0 ≤ sh ∧ sh ≤ 1000) :
    m.told now 1 (b : Int) ∧ Ph (m.into now 1 (b : Int)) limit c (b + 1) (b + 1) now (sh + 1) ∧ (m.into now 1 (b : Int)).last = m.last ∧ (m.into now 1 (b : Int)).silent = m.silent := by
  obtain ⟨p1, p2, p3⟩ := h.o1.next ht hn hi
  obtain ⟨q1, q2, q3⟩ := h.al.next ht hn hi
  have hp : m.passes now 1 (b : Int) := .inl p1
  have ht2 : taken (m.all.told now (b : Int)) := .inl q1
  have e : m.into now 1 (b : Int) = { ({ m.onto now 1 (b : Int) with all := m.all.into now (b : Int) } : MG) with short := wrap64 (m.short + ((m.n : Int) - 1)) } := by
    unfold MG.into MG.shorted
    rw [if_pos hp, if_pos ht2]
    rfl
  have g := h.g.into (now := now) (way := 1) (seq := (b : Int)) (by omega) (by omega) (by omega) (by omega)
  refine ⟨⟨hp, ht2⟩, ?_, ?_, ?_⟩
  · rw [e] at g ⊢
    have hsh := h.sh
    have hn2 := h.n
    exact ⟨g, h.n, h.every, h.limit, h.o0.late ht, p2, q2, by show wrap64 (m.short + ((m.n : Int) - 1)) = sh + 1; rw [hsh, hn2]; unfold wrap64; omega⟩
  all_goals rw [e]
  · rfl
  · rfl
theorem Ph.looked (h : Ph m limit a b c t sh) (x : Int) : Ph (m.looked x) limit a b c t 0 := ⟨⟨h.g.n1, h.g.n8, h.g.ones, h.g.all⟩, h.n, h.every, h.limit, h.o0, h.o1, h.al, rfl⟩
end
theorem P0_ph (limit : Int) : Ph (P0 limit) limit 0 0 0 0 0 := by
  have q : Nx (Q0 0 16 1099511627776 0) 0 0 := ⟨Q0_good (by decide) (by decide) (by decide), rfl, rfl, rfl, Int.le_refl _, Int.le_refl _, .inl ⟨rfl, rfl⟩⟩
  exact ⟨P0_good limit, rfl, rfl, rfl, q, q, q, rfl⟩

end Go.Proofs.Ytkapklgimcmhdaa
