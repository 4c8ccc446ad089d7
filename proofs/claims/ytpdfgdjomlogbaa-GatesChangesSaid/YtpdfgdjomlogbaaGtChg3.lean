/- What GatesChanges holds against each other behind At, and its loop over the copy. -/
import Derived.Test.YtpdfgdjomlogbaaGtChg2
namespace Go.Proofs.Ytpdfgdjomlogbaa
open Go.RowKit Go.Joins

/-- All that is kept, and the copy that At has made, in its box. -/
structure S31 (w : World) (k : Nat) (b0 c0 : Int) (sl0 : Value) (Q : CP) (Wb : World) (lb : Nat) (p1 : Option Addr) (n1 cp : Nat) (W : World) : Prop where
  ca : CA w k b0 c0 sl0 Q W
  lx : LB W lb Q.b1 Q.c1 (.slice p1 n1 cp)
  ls : TArg W (.slice p1 n1 cp) Q.ts1
  mine : Mine Wb W (.slice p1 n1 cp) n1
  nb : Q.N ≤ Wb.heap.size
  bl : Wb.heap.size ≤ lb
  gl : 0 < n1 → ∀ b, (Value.slice p1 n1 cp).ownBlock = some b → b < lb
section
variable {w W W' Wb : World} {k lb : Nat} {b0 c0 : Int} {sl0 : Value} {Q P : CP} {p1 : Option Addr} {n1 cp : Nat}
theorem Mine.below {v : Value} {n : Nat} (h : Mine Wb W v n) (hb : Below W.heap.size W W') : Mine Wb W' v n := fun h0 => by
  obtain ⟨g, cap, cur, e, hn, hg, hh, hs⟩ := h h0
  exact ⟨g, cap, cur, e, hn, hg, (hb.block _ (lt_of_heap hh)).trans hh, hs⟩
theorem S31.below (h : S31 w k b0 c0 sl0 Q Wb lb p1 n1 cp W) (hb : Below W.heap.size W W') : S31 w k b0 c0 sl0 Q Wb lb p1 n1 cp W' :=
  ⟨h.ca.below hb, h.lx.below hb, h.ls.below hb, h.mine.below hb, h.nb, h.bl, h.gl⟩
theorem S31.lcells (h : S31 w k b0 c0 sl0 Q Wb lb p1 n1 cp W) : W.cell? ⟨lb, 0, none⟩ = some (.int .i64 Q.b1) ∧ W.cell? ⟨lb, 1, none⟩ = some (.int .i64 Q.c1) ∧ W.cell? ⟨lb, 2, none⟩ = some (.slice p1 n1 cp) := h.lx.cells
theorem S31.ncells (h : S31 w k b0 c0 sl0 Q Wb lb p1 n1 cp W) : W.cell? ⟨k + 1, 0, none⟩ = some (.int .i64 Q.b1) ∧ W.cell? ⟨k + 1, 1, none⟩ = some (.int .i64 Q.c1) ∧ W.cell? ⟨k + 1, 2, none⟩ = some Q.sn := h.ca.now.cells
theorem S31.ccells (h : S31 w k b0 c0 sl0 Q Wb lb p1 n1 cp W) : W.cell? ⟨k + 1 + 1, 0, none⟩ = some (.int .i64 Q.b2) ∧ W.cell? ⟨k + 1 + 1, 1, none⟩ = some (.int .i64 Q.c2) ∧ W.cell? ⟨k + 1 + 1, 2, none⟩ = some Q.sc := h.ca.come.cells
theorem S31.gw (h : S31 w k b0 c0 sl0 Q Wb lb p1 n1 cp W) : W.cell? ⟨k, 7, none⟩ = some (.bool Q.wt) := by
  have := h.ca.gt.cells.2.2.2.2.2.2.2
  rwa [h.ca.ci.ew] at this
theorem S31.gadm (h : S31 w k b0 c0 sl0 Q Wb lb p1 n1 cp W) (hw : Q.wt = true) : W.cell? ⟨k, 6, none⟩ = some (.int .i64 Q.fr) ∧ W.cell? ⟨k, 3, none⟩ = some (.int .i64 Q.b2) ∧ W.cell? ⟨k, 4, none⟩ = some (.int .i64 Q.c2) ∧ W.cell? ⟨k, 5, none⟩ = some Q.g.s2 := by
  obtain ⟨-, -, -, h3, h4, h5, h6, -⟩ := h.ca.gt.cells
  obtain ⟨d1, d2, d3, -⟩ := h.ca.ci.due hw
  rw [d1] at h3
  rw [d2] at h4
  rw [d3] at h6
  exact ⟨h6, h3, h4, h5⟩
theorem S31.same1 (h : S31 w k b0 c0 sl0 Q Wb lb p1 n1 cp W) : Calls Try.prog 27 #[LV Q.b1 Q.c1 (.slice p1 n1 cp), LV Q.b1 Q.c1 Q.sn] W fun e w' => e = .returned (.bool true) ∧ S31 w k b0 c0 sl0 Q Wb lb p1 n1 cp w' :=
  (same_yes h.ls (h.ca.ci.an.below h.ca.ci.bel) (by have := h.ca.ci.l1; omega)).mono fun _ _ hh => ⟨hh.1, h.below hh.2⟩
theorem S31.same2 (h : S31 w k b0 c0 sl0 Q Wb lb p1 n1 cp W) (hw : Q.wt = true) : Calls Try.prog 27 #[LV Q.b2 Q.c2 Q.g.s2, LV Q.b2 Q.c2 Q.sc] W fun e w' => e = .returned (.bool true) ∧ S31 w k b0 c0 sl0 Q Wb lb p1 n1 cp w' :=
  (same_yes (h.ca.ci.due hw).2.2.2.1 (h.ca.ci.ac.below h.ca.ci.bel) (by have := h.ca.ci.l2; omega)).mono fun _ _ hh => ⟨hh.1, h.below hh.2⟩
/-- At, when the law's own state has turned. -/
theorem CI.at {x : Int} (h : CI w k Q W) (hg : GT W k P.g) (hs : P.g.Sl) (hQ : Q.g = P.g.turn x) (hn : Q.ts1.length = n1) :
    Calls Try.prog 26 #[.pointer (some ⟨k, 0, none⟩), .int .i64 x] W fun e w' => ∃ p cp, e = .returned (LV Q.b1 Q.c1 (.slice p n1 cp)) ∧ Mine W w' (.slice p n1 cp) n1 ∧ TArg w' (.slice p n1 cp) Q.ts1 ∧ GT w' k Q.g ∧ ButB k W w' := by
  subst hn
  have h1 := h.t1.1
  have h2 := h.off1
  rw [hQ] at h1 h2
  have := at_some hg hs x Q.ts1 h1 h2 (by have := h.l1; omega) rfl
  rw [← hQ, h.eb, h.ec] at this
  exact this
/-- Behind At. -/
theorem S31.init (h : CI w k Q Wb) (hg : GT W k Q.g) (hb : ButB k Wb W) (hn : LB Wb (k + 1) Q.b1 Q.c1 Q.sn) (hc : LB Wb (k + 1 + 1) Q.b2 Q.c2 Q.sc) (hf : LB Wb w.heap.size b0 c0 sl0) (hm : Mine Wb W (.slice p1 n1 cp) n1) (ht : TArg W (.slice p1 n1 cp) Q.ts1) :
    S31 w k b0 c0 sl0 Q Wb W.heap.size p1 n1 cp (W.alloc (.cells #[.int .i64 Q.b1, .int .i64 Q.c1, .slice p1 n1 cp] 24)) := by
  have hk := h.kk
  have hB : Below W.heap.size W (W.alloc (.cells #[.int .i64 Q.b1, .int .i64 Q.c1, .slice p1 n1 cp] 24)) := bAl (bRef W) _
  have hA : CA w k b0 c0 sl0 Q W := ⟨h.but hb (by omega), hg, hn.but hb (by omega), hc.but hb (by omega), hf.but hb (by omega)⟩
  refine ⟨hA.below hB, LB.new W _ _ _, ht.below hB, hm.below hB, h.nw, hb.size, fun h0 b e => ?_⟩
  obtain ⟨g, cap, cur, e', _, _, hh, _⟩ := hm h0
  rw [e'] at e
  simp [Value.ownBlock] at e
  rw [← e]; exact lt_of_heap hh
/-- The copy is written; all else stays. -/
theorem in_write (hca : CA w k b0 c0 sl0 Q W) (hlx : LB W lb Q.b1 Q.c1 (.slice p1 n1 cp)) (hm : Mine Wb W (.slice p1 n1 cp) n1) (hnb : Q.N ≤ Wb.heap.size) (hgl' : 0 < n1 → ∀ b, (Value.slice p1 n1 cp).ownBlock = some b → b < lb) {j : Nat} (hj : j < n1) : ∃ g, p1 = some ⟨g, 0, none⟩ ∧ (∃ z, W.cell? ⟨g, j * 2, none⟩ = some z) ∧ W.frozen? ⟨g, j * 2, none⟩ = false ∧ n1 ≤ cp ∧
    ∀ v, CA w k b0 c0 sl0 Q (W.setCell ⟨g, j * 2, none⟩ v) ∧ LB (W.setCell ⟨g, j * 2, none⟩ v) lb Q.b1 Q.c1 (.slice p1 n1 cp) ∧ Mine Wb (W.setCell ⟨g, j * 2, none⟩ v) (.slice p1 n1 cp) n1 := by
  obtain ⟨g, cap, cur, e, hn, hg, hh, hs⟩ := hm (by omega)
  injection e with e1 e2 e3
  subst e1 e3
  have hgl := hgl' (by omega) g rfl
  refine ⟨g, rfl, ?_, frozen_of_row _ _ _ _ _ hh, hn, fun v => ⟨⟨?_, ?_, ?_, ?_, ?_⟩, ?_, ?_⟩⟩
  · have hlt : j * 2 < cur.size := by rw [hs]; omega
    refine ⟨cur[j * 2], ?_⟩
    unfold World.cell?
    simp [hh, hlt]
  all_goals have hk := hca.ci.kk
  all_goals have hkn := hca.ci.kn
  · refine hca.ci.belowN ⟨rfl, rfl, rfl, by simp, fun b hb => heap_setCell_other _ _ _ _ (by simp; omega)⟩
  · exact (heap_setCell_other _ _ _ _ (by simp; omega)).trans hca.gt
  · exact (heap_setCell_other _ _ _ _ (by simp; omega)).trans hca.now
  · exact (heap_setCell_other _ _ _ _ (by simp; omega)).trans hca.come
  · exact (heap_setCell_other _ _ _ _ (by simp; omega)).trans hca.first
  · exact (heap_setCell_other _ _ _ _ (by simp; omega)).trans hlx
  · intro _
    exact ⟨g, cp, cur.setIfInBounds (j * 2) v, rfl, hn, hg, heap_setCell_same W _ (j * 2) _ _ v hh, by simpa using hs⟩
end
/-- The loop over the copy. -/
def InRel (w : World) (k : Nat) (b0 c0 : Int) (sl0 : Value) (Q : CP) (Wb : World) (lb : Nat) (p1 : Option Addr) (n1 cp : Nat) (kv : Value) (W : World) : Prop :=
  ∃ j : Nat, j ≤ n1 ∧ kv = .int .i64 (j : Int) ∧ CA w k b0 c0 sl0 Q W ∧ LB W lb Q.b1 Q.c1 (.slice p1 n1 cp) ∧ Mine Wb W (.slice p1 n1 cp) n1

end Go.Proofs.Ytpdfgdjomlogbaa
