/- What GatesChanges keeps from step to step, where it lies. -/
import Derived.Test.YtpdfgdjomlogbaaGtChg
import Derived.Test.YtpdfgdjomlogbaaGtSArg
namespace Go.Proofs.Ytpdfgdjomlogbaa
open Go.RowKit Go.Joins

/-- All that the law keeps, at a round's head. -/
structure CA (w : World) (k : Nat) (b0 c0 : Int) (sl0 : Value) (P : CP) (W : World) : Prop where
  ci : CI w k P W
  gt : GT W k P.g
  now : LB W (k + 1) P.b1 P.c1 P.sn
  come : LB W (k + 1 + 1) P.b2 P.c2 P.sc
  first : LB W w.heap.size b0 c0 sl0
def ChRel (w : World) (k : Nat) (b0 c0 : Int) (sl0 : Value) (m : Nat) (fv wv kv : Value) (wr : World) : Prop :=
  ∃ j : Nat, j ≤ m ∧ kv = .int .i64 (j : Int) ∧ ∃ P : CP, fv = .int .i64 P.fr ∧ wv = .bool P.wt ∧ CA w k b0 c0 sl0 P wr
theorem CA.below {w W W' : World} {k : Nat} {b0 c0 : Int} {sl0 : Value} {P : CP} (h : CA w k b0 c0 sl0 P W) (hb : Below W.heap.size W W') : CA w k b0 c0 sl0 P W' :=
  ⟨h.ci.below hb, h.gt.below hb, h.now.below hb, h.come.below hb, h.first.below hb⟩
abbrev StO (s : SP) : Obj := .cells #[.bool s.set, .int .i64 s.b, .int .i64 s.c, s.sl, .int .i64 s.now] 51 (0, 0)
/-- And the step's box besides. -/
structure MC (w : World) (k : Nat) (b0 c0 : Int) (sl0 : Value) (r : Nat) (s : SP) (P : CP) (W : World) : Prop where
  ca : CA w k b0 c0 sl0 P W
  st : W.heap[r]? = some (StO s)
  rk : k + 3 ≤ r
theorem MC.below {w W W' : World} {k r : Nat} {b0 c0 : Int} {sl0 : Value} {s : SP} {P : CP} (h : MC w k b0 c0 sl0 r s P W) (hb : Below W.heap.size W W') : MC w k b0 c0 sl0 r s P W' :=
  ⟨h.ca.below hb, (hb.block _ (lt_of_heap h.st)).trans h.st, h.rk⟩
def MidRel (w : World) (k : Nat) (b0 c0 : Int) (sl0 : Value) (r : Nat) (s : SP) (fv wv : Value) (wx : World) : Prop :=
  ∃ P : CP, fv = .int .i64 P.fr ∧ wv = .bool P.wt ∧ MC w k b0 c0 sl0 r s P wx
theorem MC.arg {w W : World} {k r : Nat} {b0 c0 : Int} {sl0 : Value} {s : SP} {P : CP} (h : MC w k b0 c0 sl0 r s P W) {v : Value} {ts : List (Int × Int)} (ha : TArg w v ts) : TArg W v ts := ha.below h.ca.ci.bel
theorem MC.cells {w W : World} {k r : Nat} {b0 c0 : Int} {sl0 : Value} {s : SP} {P : CP} (h : MC w k b0 c0 sl0 r s P W) : W.cell? ⟨r, 0, none⟩ = some (.bool s.set) ∧ W.cell? ⟨r, 1, none⟩ = some (.int .i64 s.b) ∧ W.cell? ⟨r, 2, none⟩ = some (.int .i64 s.c) ∧ W.cell? ⟨r, 3, none⟩ = some s.sl ∧ W.cell? ⟨r, 4, none⟩ = some (.int .i64 s.now) :=
  ⟨cell_of_row _ _ _ _ _ _ h.st, cell_of_row _ _ _ _ _ _ h.st, cell_of_row _ _ _ _ _ _ h.st, cell_of_row _ _ _ _ _ _ h.st, cell_of_row _ _ _ _ _ _ h.st⟩
/-- The same, with the law's two lists as they are between. -/
structure MX (w : World) (k : Nat) (b0 c0 : Int) (sl0 : Value) (r : Nat) (s : SP) (Q : CP) (bn cn : Int) (nv : Value) (bm cm : Int) (mv : Value) (W : World) : Prop where
  ci : CI w k Q W
  gt : GT W k Q.g
  now : LB W (k + 1) bn cn nv
  come : LB W (k + 1 + 1) bm cm mv
  first : LB W w.heap.size b0 c0 sl0
  st : W.heap[r]? = some (StO s)
  rk : k + 3 ≤ r
section
variable {w W W' : World} {k r : Nat} {b0 c0 : Int} {sl0 : Value} {s : SP} {Q P : CP} {bn cn bm cm : Int} {nv mv : Value}
theorem MX.below (h : MX w k b0 c0 sl0 r s Q bn cn nv bm cm mv W) (hb : Below W.heap.size W W') : MX w k b0 c0 sl0 r s Q bn cn nv bm cm mv W' :=
  ⟨h.ci.below hb, h.gt.below hb, h.now.below hb, h.come.below hb, h.first.below hb, (hb.block _ (lt_of_heap h.st)).trans h.st, h.rk⟩
theorem MX.arg (h : MX w k b0 c0 sl0 r s Q bn cn nv bm cm mv W) {v : Value} {ts : List (Int × Int)} (ha : TArg w v ts) : TArg W v ts := ha.below h.ci.bel
theorem MX.cells (h : MX w k b0 c0 sl0 r s Q bn cn nv bm cm mv W) : W.cell? ⟨r, 0, none⟩ = some (.bool s.set) ∧ W.cell? ⟨r, 1, none⟩ = some (.int .i64 s.b) ∧ W.cell? ⟨r, 2, none⟩ = some (.int .i64 s.c) ∧ W.cell? ⟨r, 3, none⟩ = some s.sl ∧ W.cell? ⟨r, 4, none⟩ = some (.int .i64 s.now) :=
  ⟨cell_of_row _ _ _ _ _ _ h.st, cell_of_row _ _ _ _ _ _ h.st, cell_of_row _ _ _ _ _ _ h.st, cell_of_row _ _ _ _ _ _ h.st, cell_of_row _ _ _ _ _ _ h.st⟩
theorem set3_off {W : World} {k : Nat} (x0 x1 x2 : Value) {j : Nat} (hj : j ≠ k) : (((W.setCell ⟨k, 0, none⟩ x0).setCell ⟨k, 1, none⟩ x1).setCell ⟨k, 2, none⟩ x2).heap[j]? = W.heap[j]? := by
  rw [heap_setCell_other _ _ _ _ hj, heap_setCell_other _ _ _ _ hj, heap_setCell_other _ _ _ _ hj]
theorem set3_but {W : World} {k : Nat} (x0 x1 x2 : Value) : ButB k W (((W.setCell ⟨k, 0, none⟩ x0).setCell ⟨k, 1, none⟩ x1).setCell ⟨k, 2, none⟩ x2) := (set_but 0 _).trans ((set_but 1 _).trans (set_but 2 _))
theorem set3_row {W : World} {k : Nat} {t : TypeId} {a0 a1 a2 : Value} (h : W.heap[k]? = some (.cells #[a0, a1, a2] t (0, 0))) (x0 x1 x2 : Value) : (((W.setCell ⟨k, 0, none⟩ x0).setCell ⟨k, 1, none⟩ x1).setCell ⟨k, 2, none⟩ x2).heap[k]? = some (.cells #[x0, x1, x2] t (0, 0)) := by
  have h0 : (W.setCell ⟨k, 0, none⟩ x0).heap[k]? = some (.cells #[x0, a1, a2] t (0, 0)) := heap_setCell_same W _ 0 _ _ x0 h
  have h1 : ((W.setCell ⟨k, 0, none⟩ x0).setCell ⟨k, 1, none⟩ x1).heap[k]? = some (.cells #[x0, x1, a2] t (0, 0)) := heap_setCell_same _ _ 1 _ _ x1 h0
  exact heap_setCell_same _ _ 2 _ _ x2 h1
theorem MX.setNow (h : MX w k b0 c0 sl0 r s Q bn cn nv bm cm mv W) (b c : Int) (v : Value) : MX w k b0 c0 sl0 r s Q b c v bm cm mv (((W.setCell ⟨k + 1, 0, none⟩ (.int .i64 b)).setCell ⟨k + 1, 1, none⟩ (.int .i64 c)).setCell ⟨k + 1, 2, none⟩ v) := by
  have := h.rk
  have := h.ci.kk
  exact ⟨h.ci.but (set3_but _ _ _) (by omega), (set3_off _ _ _ (by omega)).trans h.gt, set3_row h.now _ _ _, (set3_off _ _ _ (by omega)).trans h.come, (set3_off _ _ _ (by omega)).trans h.first, (set3_off _ _ _ (by omega)).trans h.st, h.rk⟩
theorem MX.setCome (h : MX w k b0 c0 sl0 r s Q bn cn nv bm cm mv W) (b c : Int) (v : Value) : MX w k b0 c0 sl0 r s Q bn cn nv b c v (((W.setCell ⟨k + 1 + 1, 0, none⟩ (.int .i64 b)).setCell ⟨k + 1 + 1, 1, none⟩ (.int .i64 c)).setCell ⟨k + 1 + 1, 2, none⟩ v) := by
  have := h.rk
  have := h.ci.kk
  exact ⟨h.ci.but (set3_but _ _ _) (by omega), (set3_off _ _ _ (by omega)).trans h.gt, (set3_off _ _ _ (by omega)).trans h.now, set3_row h.come _ _ _, (set3_off _ _ _ (by omega)).trans h.first, (set3_off _ _ _ (by omega)).trans h.st, h.rk⟩
theorem MX.mc (h : MX w k b0 c0 sl0 r s Q Q.b1 Q.c1 Q.sn Q.b2 Q.c2 Q.sc W) : MC w k b0 c0 sl0 r s Q W := ⟨⟨h.ci, h.gt, h.now, h.come, h.first⟩, h.st, h.rk⟩
/-- Change has been called: the gate has its new list to come. -/
theorem MC.change (h : MC w k b0 c0 sl0 r s P W) {x b c t : Int} {p1 : Option Addr} {n1 k1 : Nat} {v : Value} {ts : List (Int × Int)} (hn : n1 = ts.length) (ha : TArg w v ts) (hl : ts.length ≤ 70) (hm : Mine W W' (.slice p1 n1 k1) ts.length) (ht : TArg W' (.slice p1 n1 k1) ts)
    (hg : GT W' k ⟨(P.g.turn x).b1, (P.g.turn x).c1, (P.g.turn x).s1, b, c, .slice p1 n1 k1, t, true⟩) (hb : ButB k W W') :
    MX w k b0 c0 sl0 r s ((P.turn x).put b c (.slice p1 n1 k1) v ts t W'.heap.size) P.b1 P.c1 P.sn P.b2 P.c2 P.sc W' := by
  have := h.rk
  have := h.ca.ci.kk
  have hk : k ≠ w.heap.size := by omega
  refine ⟨((h.ca.ci.turn x).but hb (by omega)).put t ⟨_, _, _, rfl⟩ (h.ca.ci.fresh hm ht) ha hl, ?_, h.ca.now.but hb (by omega), h.ca.come.but hb (by omega), h.ca.first.but hb hk.symm, (hb.block _ (lt_of_heap h.st) (by omega)).trans h.st, h.rk⟩
  show GT W' k ⟨(P.turn x).g.b1, (P.turn x).g.c1, (P.turn x).g.s1, b, c, .slice p1 n1 k1, t, true⟩
  rw [CP.turn_g]
  exact hg
end

end Go.Proofs.Ytpdfgdjomlogbaa
