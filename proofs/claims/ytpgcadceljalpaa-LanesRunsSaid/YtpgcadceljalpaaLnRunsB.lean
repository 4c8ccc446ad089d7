/- LanesRuns: the state of its great loop in memory: lanes, the law's row, the rooms' box, the box of what was lost. -/
import Derived.Test.YtpgcadceljalpaaLnRunsA
namespace Go.Proofs.Ytpgcadceljalpaa
open Go.RowKit Go.Joins

structure RunS (w : World) (b lb : Nat) (r l : Nat → Int) (L : List On) (s : LS) (F : Nat → Prop) (v : Value) (W : World) : Prop where
  ln : LnB w W b F s
  row : Rw w.heap.size W v L
  nf : ∀ g, v.ownBlock = some g → ¬ F g
  rm : W.heap[w.heap.size]? = some (o8 r)
  nr : ¬ F w.heap.size
  ls : W.heap[lb]? = some (o8 l)
  nl : ¬ F lb
  lo : w.heap.size < lb
section
variable {w W W' : World} {b lb : Nat} {r l : Nat → Int} {L : List On} {s s' : LS} {F : Nat → Prop} {v : Value}
theorem Rw.lt {B : Nat} (h : Rw B W v L) {g : Nat} (hg : v.ownBlock = some g) : g < W.heap.size ∧ ∃ cur, W.heap[g]? = some (.cells cur 41 (0, 0)) := by
  rcases h with ⟨rfl, _⟩ | ⟨g2, cap, cur, rfl, h2, h3, _⟩
  · cases hg
  · injection hg with hg
    subst hg
    exact ⟨lt_of_heap h3, cur, h3⟩
theorem Rw.keep {B : Nat} (h : Rw B W v L) (hk : ∀ g, v.ownBlock = some g → W'.heap[g]? = W.heap[g]?) : Rw B W' v L := by
  rcases h with h | ⟨g, cap, cur, rfl, h2, h3, h4⟩
  · exact .inl h
  · exact .inr ⟨g, cap, cur, rfl, h2, (hk g rfl).trans h3, h4⟩
theorem RunS.below (h : RunS w b lb r l L s F v W) (hb : Below W.heap.size W W') : RunS w b lb r l L s F v W' :=
  ⟨h.ln.below hb, h.row.below hb, h.nf, (hb.block _ (lt_of_heap h.rm)).trans h.rm, h.nr, (hb.block _ (lt_of_heap h.ls)).trans h.ls, h.nl, h.lo⟩
theorem RunS.alloc (h : RunS w b lb r l L s F v W) (o : Obj) : RunS w b lb r l L s F v (W.alloc o) := h.below (bAl (bRef W) o)
/-- The lanes turn. -/
theorem RunS.turn (h : RunS w b lb r l L s F v W) (hl : Left w W b F s' W') : ∃ F', RunS w b lb r l L s' F' v W' := by
  obtain ⟨F', h1, h2, h3⟩ := hl
  refine ⟨F', h1, h.row.keep (fun g hg => h3.block g (h.row.lt hg).1 (h.nf g hg)), fun g hg f => ?_, (h3.block _ (lt_of_heap h.rm) h.nr).trans h.rm, fun f => ?_, (h3.block _ (lt_of_heap h.ls) h.nl).trans h.ls, fun f => ?_, h.lo⟩
  · rcases h2 g f with f | f
    · exact h.nf g hg f
    · have := (h.row.lt hg).1
      omega
  · rcases h2 _ f with f | f
    · exact h.nr f
    · have := lt_of_heap h.rm
      omega
  · rcases h2 _ f with f | f
    · exact h.nl f
    · have := lt_of_heap h.ls
      omega
theorem o8_set (l : Nat → Int) (c : Nat) (hc : c < 8) (x : Int) {g : Nat} (h : W.heap[g]? = some (o8 l)) : (W.setCell ⟨g, c, none⟩ (.int .i64 x)).heap[g]? = some (o8 (upd l c x)) := by
  rw [heap_setCell_same W g c _ _ (.int .i64 x) h]
  rcases eight_cases hc with rfl | rfl | rfl | rfl | rfl | rfl | rfl | rfl <;> rfl
/-- One more of what was lost is counted by the law. -/
theorem RunS.lost (h : RunS w b lb r l L s F v W) (c : Nat) (hc : c < 8) (x : Int) : RunS w b lb r (upd l c x) L s F v (W.setCell ⟨lb, c, none⟩ (.int .i64 x)) := by
  have hbut : ButP (fun k => k = lb) W (W.setCell ⟨lb, c, none⟩ (.int .i64 x)) := ⟨rfl, rfl, rfl, by simp, fun k _ hn => heap_setCell_other W ⟨lb, c, none⟩ k _ (fun e => hn e)⟩
  have hlo := h.lo
  have hls := h.ls
  refine ⟨⟨h.ln.ln.but hbut (fun k f e => h.nl (e ▸ f)), h.ln.low, h.ln.bel.trans (hbut.below (fun k e => by omega) h.ln.bel.size)⟩, h.row.keep (fun g hg => ?_), h.nf, (heap_setCell_other W ⟨lb, c, none⟩ _ _ (by show w.heap.size ≠ lb; omega)).trans h.rm, h.nr, o8_set l c hc x h.ls, h.nl, h.lo⟩
  obtain ⟨_, cur, h3⟩ := h.row.lt hg
  refine heap_setCell_other W ⟨lb, c, none⟩ g _ ?_
  exact neq_tag h3 hls (by decide)
/-- The law's row turns: its own block alone may have turned. -/
theorem RunS.setRow (h : RunS w b lb r l L s F v W) {v' : Value} {L' : List On} (hr : Rw w.heap.size W' v' L') (hg : W.grownBy W' v.ownBlock) (ho : v'.ownBlock = v.ownBlock ∨ v'.ownBlock = some W.heap.size) : RunS w b lb r l L' s F v' W' := by
  have hne : ∀ {g : Nat} {cs : Array Value} {t : TypeId} {fr : Nat × Nat}, W.heap[g]? = some (.cells cs t fr) → t ≠ 41 → some g ≠ v.ownBlock := fun hx ht e => by
    obtain ⟨_, cur, h3⟩ := h.row.lt e.symm
    rw [h3] at hx
    injection hx with hx
    injection hx with _ hx _
    exact ht hx.symm
  have hbut : ButP (fun k => some k = v.ownBlock) W W' := ⟨hg.os, hg.tape, hg.output, hg.size, fun k hk hn => hg.block k hk hn⟩
  have hbel : Below w.heap.size w W' := h.ln.bel.trans (hbut.below (fun k e => by
    rcases h.row with ⟨rfl, _⟩ | ⟨g, cap, cur, rfl, h2, _⟩
    · cases e
    · injection e with e
      subst e
      exact h2) h.ln.bel.size)
  refine ⟨⟨h.ln.ln.but hbut (fun k f e => h.nf k e.symm f), h.ln.low, hbel⟩, hr, fun g hg2 f => ?_, (hg.block _ (lt_of_heap h.rm) (hne h.rm (by decide))).trans h.rm, h.nr, (hg.block _ (lt_of_heap h.ls) (hne h.ls (by decide))).trans h.ls, h.nl, h.lo⟩
  rcases ho with ho | ho
  · exact h.nf g (ho.symm.trans hg2) f
  · rw [ho] at hg2
    injection hg2 with hg2
    have := h.ln.ln.top.2 g f
    omega
theorem RunS.start {b : Nat} (hm : LnB w W b (fun k => k = b) s) (hk : W.heap[w.heap.size]? = some (o8 r)) (hlo : w.heap.size < b) :
    RunS w b (W.heap.size + 1) r (fun _ => 0) [] s (fun k => k = b) (.slice (some ⟨W.heap.size, 0, none⟩) 0 0) ((W.alloc (.cells #[] 41)).alloc (.cells #[.int .i64 0, .int .i64 0, .int .i64 0, .int .i64 0, .int .i64 0, .int .i64 0, .int .i64 0, .int .i64 0] 22)) := by
  have hb := hm.ln.top.2 b rfl
  have hw := lt_of_heap hk
  have b1 := bAl (bRef W) (.cells #[] 41)
  have b2 := bAl (bRef (W.alloc (.cells #[] 41))) (.cells #[.int .i64 0, .int .i64 0, .int .i64 0, .int .i64 0, .int .i64 0, .int .i64 0, .int .i64 0, .int .i64 0] 22)
  have hg : (W.alloc (.cells #[] 41)).heap[W.heap.size]? = some (.cells #[] 41) := heap_alloc_one' W _
  refine ⟨(hm.below b1).below b2, .inr ⟨W.heap.size, 0, #[], rfl, Nat.le_of_lt hw, (b2.block _ (lt_of_heap hg)).trans hg, by simp, by unfold maxLen; omega, by simp, fun j u hu => by simp [iv4] at hu⟩, fun g hg2 e => ?_, ?_, fun e => by omega, ?_, fun e => by omega, by omega⟩
  · injection hg2 with hg2
    have hg3 : W.heap.size = g := hg2
    have he : g = b := e
    omega
  · exact (b2.block _ (by simp; omega)).trans ((b1.block _ hw).trans hk)
  · have := heap_alloc_one' (W.alloc (.cells #[] 41)) (.cells #[.int .i64 0, .int .i64 0, .int .i64 0, .int .i64 0, .int .i64 0, .int .i64 0, .int .i64 0, .int .i64 0] 22)
    have e : (W.alloc (.cells #[] 41)).heap.size = W.heap.size + 1 := by simp
    rw [e] at this
    exact this
/-- None waits any more. -/
theorem RunS.clear (h : RunS w b lb r l L s F v W) : RunS w b lb r l [] s F (.slice none 0 0) W := ⟨h.ln, .inl ⟨rfl, rfl⟩, (fun g hg => by cases hg), h.rm, h.nr, h.ls, h.nl, h.lo⟩
end

end Go.Proofs.Ytpgcadceljalpaa
