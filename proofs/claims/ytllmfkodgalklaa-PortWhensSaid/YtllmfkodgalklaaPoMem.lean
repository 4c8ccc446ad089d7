/- A port in memory: its gate in its own block, the lanes behind it, the slots' rows apart. -/
import Derived.Test.YtllmfkodgalklaaPoHand
namespace Go.Proofs.Ytllmfkodgalklaa
open Go.RowKit Go.Joins

/-- A gate in plain numbers. -/
structure PL where
  b1 : Int
  c1 : Int
  t1 : List (Int × Int)
  b2 : Int
  c2 : Int
  t2 : List (Int × Int)
  fr : Int
  wt : Bool
def PL.due (p : PL) (x : Int) : Prop := p.wt = true ∧ p.fr ≤ x
instance (p : PL) (x : Int) : Decidable (p.due x) := by unfold PL.due; infer_instance
def PL.turn (p : PL) (x : Int) : PL := if p.due x then ⟨p.b2, p.c2, p.t2, 0, 0, [], 0, false⟩ else p
def PL.new (b c : Int) (ts : List (Int × Int)) : PL := ⟨b, c, ts, 0, 0, [], 0, false⟩
structure PL.Fine (p : PL) : Prop where
  l1 : p.t1.length ≤ 64
  l2 : p.t2.length ≤ 64
  f0 : 0 ≤ p.fr
  f1 : p.fr ≤ 4398046511104
theorem PL.Fine.turn {p : PL} (h : p.Fine) (x : Int) : (p.turn x).Fine := by
  unfold PL.turn
  split
  · exact ⟨h.l2, by simp, by simp, by simp⟩
  · exact h
/-- The row's block is one of slots. -/
def Tag (W : World) (v : Value) : Prop := ∀ j, v.ownBlock = some j → ∃ cur, W.heap[j]? = some (.cells cur 64 (0, 0))
theorem Mine.tag {w W : World} {v : Value} {n : Nat} (h : Mine w W v n) (h0 : 0 < n) : Tag W v := fun j e => by
  obtain ⟨g, cap, cur, rfl, _, _, hh, _⟩ := h h0
  simp [Value.ownBlock] at e
  subst e
  exact ⟨cur, hh⟩
/-- The gate's cells say so. -/
structure PoS (L : Nat) (W : World) (k : Nat) (F : Nat → Prop) (p : PL) (g : GS) : Prop where
  gt : GT L W k g
  sl : g.Sl
  e1 : g.b1 = p.b1
  e2 : g.c1 = p.c1
  e3 : g.b2 = p.b2
  e4 : g.c2 = p.c2
  e5 : g.fr = p.fr
  e6 : g.wt = p.wt
  a1 : TArg W g.s1 p.t1
  a2 : TArg W g.s2 p.t2
  n1 : 0 < p.t1.length → ∀ j, g.s1.ownBlock = some j → j ≠ k ∧ ¬ F j
  n2 : 0 < p.t2.length → ∀ j, g.s2.ownBlock = some j → j ≠ k ∧ ¬ F j
  y1 : 0 < p.t1.length → Tag W g.s1
  y2 : 0 < p.t2.length → Tag W g.s2
/-- A port whose lanes lie at L, in the blocks F. -/
structure PoL (w0 W : World) (k L : Nat) (F : Nat → Prop) (p : PL) (s : LS) : Prop where
  gs : ∃ g, PoS L W k F p g
  ln : LnB w0 W L F s
  kF : ¬ F k
  low : w0.heap.size ≤ k
  fine : p.Fine
  gd : s.Good
  ok : okR s.r 8
def PLeft (w0 W0 : World) (k L : Nat) (F : Nat → Prop) (p : PL) (s : LS) (W : World) : Prop :=
  ∃ F', PoL w0 W k L F' p s ∧ (∀ j, F' j → F j ∨ W0.heap.size ≤ j) ∧ ButP (fun j => j = k ∨ F j) W0 W
theorem TArg.lt {w : World} {v : Value} {ts : List (Int × Int)} (h : TArg w v ts) (h0 : 0 < ts.length) {j : Nat} (hj : v.ownBlock = some j) : j < w.heap.size := by
  obtain ⟨b, o, c, rfl, _, hr⟩ := h.at h0
  simp [Value.ownBlock] at hj
  rw [← hj]; exact hr.1
section
variable {w0 W W' W0 : World} {k L : Nat} {F F' : Nat → Prop} {p p' : PL} {s s' : LS} {g : GS}
theorem PoS.klt (h : PoS L W k F p g) : k < W.heap.size := lt_of_heap h.gt
theorem PoS.keep (h : PoS L W k F p g) (hb : ButP F W W') (hk : ¬ F k) (hf : ∀ j, F' j → F j ∨ W.heap.size ≤ j) : PoS L W' k F' p g := by
  have one : ∀ {v : Value} {ts : List (Int × Int)}, TArg W v ts → (0 < ts.length → ∀ j, v.ownBlock = some j → j ≠ k ∧ ¬ F j) → TArg W' v ts ∧ (0 < ts.length → ∀ j, v.ownBlock = some j → j ≠ k ∧ ¬ F' j) := by
    intro v ts ha hn
    refine ⟨ha.keep hb.size fun h0 b e => hb.block b (ha.lt h0 e) (hn h0 b e).2, fun h0 j e => ⟨(hn h0 j e).1, fun hj => ?_⟩⟩
    rcases hf j hj with h1 | h1
    · exact (hn h0 j e).2 h1
    · have := ha.lt h0 e
      omega
  have tag : ∀ {v : Value} {ts : List (Int × Int)}, TArg W v ts → (0 < ts.length → ∀ j, v.ownBlock = some j → j ≠ k ∧ ¬ F j) → (0 < ts.length → Tag W v) → (0 < ts.length → Tag W' v) := fun ha hn ht h0 j e => by
    obtain ⟨cur, hc⟩ := ht h0 j e
    exact ⟨cur, (hb.block j (ha.lt h0 e) (hn h0 j e).2).trans hc⟩
  exact ⟨(hb.block k h.klt hk).trans h.gt, h.sl, h.e1, h.e2, h.e3, h.e4, h.e5, h.e6, (one h.a1 h.n1).1, (one h.a2 h.n2).1, (one h.a1 h.n1).2, (one h.a2 h.n2).2, tag h.a1 h.n1 h.y1, tag h.a2 h.n2 h.y2⟩
theorem Tag.but {v : Value} {ts : List (Int × Int)} (ht : 0 < ts.length → Tag W v) (hb : ButB k W W') (ha : TArg W v ts) (hn : 0 < ts.length → ∀ j, v.ownBlock = some j → j ≠ k ∧ ¬ F j) : 0 < ts.length → Tag W' v := fun h0 j e => by
  obtain ⟨cur, hc⟩ := ht h0 j e
  exact ⟨cur, (hb.block j (ha.lt h0 e) (hn h0 j e).1).trans hc⟩
theorem PoS.turn (h : PoS L W k F p g) (x : Int) (hg : GT L W' k (g.turn x)) (hb : ButB k W W') : PoS L W' k F (p.turn x) (g.turn x) := by
  have a1 : TArg W' g.s1 p.t1 := h.a1.but hb fun h0 e => (h.n1 h0 _ e).1 rfl
  have a2 : TArg W' g.s2 p.t2 := h.a2.but hb fun h0 e => (h.n2 h0 _ e).1 rfl
  have hs := h.sl.turn x
  unfold GS.turn at *
  unfold PL.turn
  by_cases hd : g.due x
  · have hd2 : p.due x := ⟨h.e6.symm.trans hd.1, by rw [← h.e5]; exact hd.2⟩
    rw [if_pos hd] at *
    rw [if_pos hd2]
    exact ⟨hg, hs, h.e3, h.e4, rfl, rfl, rfl, rfl, a2, ⟨fun k hk => by simp at hk, .inl ⟨rfl, _, _, rfl, fun _ => rfl⟩⟩, h.n2, fun h0 => by simp at h0, Tag.but h.y2 hb h.a2 h.n2, fun h0 => by simp at h0⟩
  · have hd2 : ¬ p.due x := fun e => hd ⟨h.e6.trans e.1, by rw [h.e5]; exact e.2⟩
    rw [if_neg hd] at *
    rw [if_neg hd2]
    exact ⟨hg, hs, h.e1, h.e2, h.e3, h.e4, h.e5, h.e6, a1, a2, h.n1, h.n2, Tag.but h.y1 hb h.a1 h.n1, Tag.but h.y2 hb h.a2 h.n2⟩
theorem PoL.klt (h : PoL w0 W k L F p s) : k < W.heap.size := by obtain ⟨g, hg⟩ := h.gs; exact hg.klt
theorem PoL.lan (h : PoL w0 W k L F p s) : W.cell? ⟨k, 8, none⟩ = some (.pointer (some ⟨L, 0, none⟩)) := by obtain ⟨g, hg⟩ := h.gs; exact hg.gt.lan
theorem PoL.below (h : PoL w0 W k L F p s) (hb : Below W.heap.size W W') : PoL w0 W' k L F p s := by
  obtain ⟨g, hg⟩ := h.gs
  exact ⟨⟨g, hg.keep (.of_below hb) h.kF fun _ e => .inl e⟩, h.ln.below hb, h.kF, h.low, h.fine, h.gd, h.ok⟩
theorem PoL.bel (h : PoL w0 W k L F p s) : Below w0.heap.size w0 W := h.ln.bel
theorem PLeft.refl (h : PoL w0 W k L F p s) : PLeft w0 W k L F p s W := ⟨F, h, fun _ e => .inl e, ButP.refl _ _⟩
theorem PLeft.below (h : PLeft w0 W0 k L F p s W) (hb : Below W.heap.size W W') : PLeft w0 W0 k L F p s W' := by
  obtain ⟨F', h1, h2, h3⟩ := h
  exact ⟨F', h1.below hb, h2, h3.trans (.of_below hb)⟩
theorem PLeft.of_below (h : PoL w0 W k L F p s) (hb : Below W.heap.size W W') : PLeft w0 W k L F p s W' := (PLeft.refl h).below hb
theorem ButP.kept {G : Nat → Prop} {v v' : World} (h : ButP G v v') {j : Nat} {o : Obj} (ho : v.heap[j]? = some o) (hn : ¬ G j) : v'.heap[j]? = some o := (h.block j (lt_of_heap ho) hn).trans ho
theorem PLeft.trans {W1 : World} (h : PLeft w0 W0 k L F p s W1) (h2 : ∀ F1, PoL w0 W1 k L F1 p s → PLeft w0 W1 k L F1 p' s' W') : PLeft w0 W0 k L F p' s' W' := by
  obtain ⟨F1, a1, a2, a3⟩ := h
  obtain ⟨F2, b1, b2, b3⟩ := h2 F1 a1
  refine ⟨F2, b1, fun j hj => ?_, a3.trans (b3.mono fun j hj => ?_)⟩
  · rcases b2 j hj with e | e
    · exact a2 j e
    · exact .inr (Nat.le_trans a3.size e)
  · rcases hj with e | e
    · exact .inl (.inl e)
    · rcases a2 j e with e | e
      · exact .inl (.inr e)
      · obtain ⟨sl, hl⟩ := a1.ln.ln
        exact .inr ⟨e, hl.top j ‹_›⟩
theorem PLeft.from (hb : Below W.heap.size W W0) (h : PLeft w0 W0 k L F p s W') : PLeft w0 W k L F p s W' := by
  obtain ⟨F', h1, h2, h3⟩ := h
  exact ⟨F', h1, fun j hj => (h2 j hj).imp_right fun e => Nat.le_trans hb.size e, (ButP.of_below hb).trans (h3.mono fun _ e => .inl e)⟩
theorem LnB.butB (h : LnB w0 W L F s) (hb : ButB k W W') (hk : ¬ F k) (hl : w0.heap.size ≤ k) (hlt : k < W.heap.size) : LnB w0 W' L F s := by
  obtain ⟨⟨sl, hi⟩, h2, h3⟩ := h
  exact ⟨⟨sl, hi.keep hb.size fun j hj => hb.block j (hi.top j hj) fun e => hk (e ▸ hj)⟩, h2, h3.trans (hb.below hl hlt)⟩
theorem ButB.butP (hb : ButB k W W') : ButP (fun j => j = k ∨ F j) W W' := ⟨hb.os, hb.tape, hb.output, hb.size, fun j hj hn => hb.block j hj fun e => hn (.inl e)⟩
/-- The gate's cells were turned. -/
theorem PoL.gate (h : PoL w0 W k L F p s) (hb : ButB k W W') {g' : GS} (hg : PoS L W' k F p' g') (hf : p'.Fine) : PoL w0 W' k L F p' s :=
  ⟨⟨g', hg⟩, h.ln.butB hb h.kF h.low h.klt, h.kF, h.low, hf, h.gd, h.ok⟩
theorem PLeft.gate (h : PoL w0 W k L F p s) (hb : ButB k W W') {g' : GS} (hg : PoS L W' k F p' g') (hf : p'.Fine) : PLeft w0 W k L F p' s W' :=
  ⟨F, h.gate hb hg hf, fun _ e => .inl e, hb.butP⟩
/-- The lanes were turned. -/
theorem PLeft.lanes (h : PoL w0 W k L F p s) (hl : Left w0 W L F s' W') (hg : s'.Good) (ho : okR s'.r 8) : PLeft w0 W k L F p s' W' := by
  obtain ⟨F', h1, h2, h3⟩ := hl
  obtain ⟨g, hs⟩ := h.gs
  refine ⟨F', ⟨⟨g, hs.keep h3 h.kF h2⟩, h1, fun e => ?_, h.low, h.fine, hg, ho⟩, h2, h3.mono fun _ e => .inr e⟩
  rcases h2 k e with e | e
  · exact h.kF e
  · have := h.klt
    omega
/-- A box that is none of the port's is written. -/
theorem PoL.other (h : PoL w0 W k L F p s) {g : Nat} {cs : Array Value} {T : TypeId} {fr : Nat × Nat} (hg : W.heap[g]? = some (.cells cs T fr)) (hT : T ≠ 64) (h1 : g ≠ k) (h2 : ¬ F g) (h3 : w0.heap.size ≤ g) (hb : ButB g W W') : PoL w0 W' k L F p s := by
  obtain ⟨q, hq⟩ := h.gs
  have ne : ∀ {v : Value} {ts : List (Int × Int)}, (0 < ts.length → Tag W v) → 0 < ts.length → ∀ j, v.ownBlock = some j → j ≠ g := fun ht h0 j e e2 => by
    obtain ⟨cur, hc⟩ := ht h0 j e
    rw [e2, hg] at hc
    injection hc with hc
    injection hc with _ hc _
    exact hT hc
  have one : ∀ {v : Value} {ts : List (Int × Int)}, TArg W v ts → (0 < ts.length → Tag W v) → TArg W' v ts := fun ha ht => ha.but hb fun h0 e => ne ht h0 _ e rfl
  have tag : ∀ {v : Value} {ts : List (Int × Int)}, TArg W v ts → (0 < ts.length → Tag W v) → (0 < ts.length → Tag W' v) := fun ha ht h0 j e => by
    obtain ⟨cur, hc⟩ := ht h0 j e
    exact ⟨cur, (hb.block j (ha.lt h0 e) (ne ht h0 j e)).trans hc⟩
  exact ⟨⟨q, (hb.block k hq.klt (Ne.symm h1)).trans hq.gt, hq.sl, hq.e1, hq.e2, hq.e3, hq.e4, hq.e5, hq.e6, one hq.a1 hq.y1, one hq.a2 hq.y2, hq.n1, hq.n2, tag hq.a1 hq.y1, tag hq.a2 hq.y2⟩, h.ln.butB hb h2 h3 (lt_of_heap hg), h.kF, h.low, h.fine, h.gd, h.ok⟩
end

end Go.Proofs.Ytllmfkodgalklaa
